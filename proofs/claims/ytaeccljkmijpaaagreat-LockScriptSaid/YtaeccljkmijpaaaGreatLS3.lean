/- Contracts of the functions that the statements reach, part 3: what was proved of each, callees first. -/
import Derived.DeepKeys5
import Derived.Lib.SmallJoins
import Derived.Deep.MidRow
import Derived.BigQuiet
import Derived.Test.YtaeccljkmijpaaaGreatLS2
namespace Go.Proofs.YtaeccljkmijpaaaGreat
open Go.RowKit
theorem rowB_prop {L : List Acc} {g : Bool} {k : Nat} (h : properB L g (L.getD k acc0) = false) : rowB L g k = false := by unfold rowB; rw [h]; rfl
theorem rowB_zero {L : List Acc} {g : Bool} (h : properB L g (L.getD 0 acc0) = true) : rowB L g 0 = topB L (L.getD 0 acc0) := by unfold rowB; rw [h]; simp
theorem rowB_down {L : List Acc} {g : Bool} {j : Nat} (h : (L.getD (j + 1) acc0).code ≤ (L.getD j acc0).code) : rowB L g (j + 1) = false := by
 unfold rowB
 rw [show decide (j + 1 = 0) = false from decide_eq_false (by omega), show decide ((L.getD (j + 1 - 1) acc0).code < (L.getD (j + 1) acc0).code) = false from decide_eq_false (by rw [Nat.add_sub_cancel]; omega)]
 simp
theorem rowB_up {L : List Acc} {g : Bool} {j : Nat} (h : properB L g (L.getD (j + 1) acc0) = true) (h2 : (L.getD j acc0).code < (L.getD (j + 1) acc0).code) : rowB L g (j + 1) = topB L (L.getD (j + 1) acc0) := by
 unfold rowB
 rw [h, show decide ((L.getD (j + 1 - 1) acc0).code < (L.getD (j + 1) acc0).code) = true from decide_eq_true (by rw [Nat.add_sub_cancel]; omega)]
 simp
def rvFa (b off n k : Nat) (cp : Nat) (g : Bool) (x : Acc) : List (Nat × AS.Fact) := [(15, AS.Fact.is (.slice (some ⟨b, off, none⟩) (n : Nat) cp)), (16, AS.Fact.is (.slice (some ⟨b, off, none⟩) (n : Nat) cp)), (17, AS.Fact.is (.int .i64 (k : Int))), (18, AS.Fact.is (.pointer (some ⟨b, off + k * 4, none⟩))), (19, AS.Fact.is (accV x)), (20, AS.Fact.is (.bool g)), (21, AS.Fact.is (.bool false)), (22, AS.Fact.is (.bool true)), (23, AS.Fact.is (.bool true)), (24, AS.Fact.is (undef)), (25, AS.Fact.is (undef)), (26, AS.Fact.is (undef)), (27, AS.Fact.is (undef)), (28, AS.Fact.is (undef)), (29, AS.Fact.is (undef)), (30, AS.Fact.is (undef)), (31, AS.Fact.is (undef)), (32, AS.Fact.is (undef)), (33, AS.Fact.is (undef)), (34, AS.Fact.is (undef)), (35, AS.Fact.is (undef)), (36, AS.Fact.is (undef)), (37, AS.Fact.is (undef)), (38, AS.Fact.is (undef)), (39, AS.Fact.is (undef)), (40, AS.Fact.is (.bool true)), (41, AS.Fact.is (.bool true)), (42, AS.Fact.is (undef)), (43, AS.Fact.is (undef)), (44, AS.Fact.is (undef)), (45, AS.Fact.is (undef)), (46, AS.Fact.is (undef)), (47, AS.Fact.is (undef)), (48, AS.Fact.is (undef)), (49, AS.Fact.is (undef)), (50, AS.Fact.is (undef)), (51, AS.Fact.is (undef)), (52, AS.Fact.is (undef)), (53, AS.Fact.is (.bool true))]
def rvFb (b off n k : Nat) (cp : Nat) (g : Bool) (x : Acc) (C : List Int) (cl : Nat) (q : Bool) : List (Nat × AS.Fact) := [(15, AS.Fact.is (.slice (some ⟨b, off, none⟩) (n : Nat) cp)), (16, AS.Fact.is (.slice (some ⟨b, off, none⟩) (n : Nat) cp)), (17, AS.Fact.is (.int .i64 (k : Int))), (18, AS.Fact.is (.pointer (some ⟨b, off + k * 4, none⟩))), (19, AS.Fact.is (accV x)), (20, AS.Fact.is (.bool g)), (21, AS.Fact.is (.bool true)), (22, AS.Fact.is (.bool false)), (23, AS.Fact.is (.bool false)), (24, AS.Fact.is (.int .i64 (k : Int))), (25, AS.Fact.is (.bool false)), (26, AS.Fact.is (.bool false)), (27, AS.Fact.is (undef)), (28, AS.Fact.is (undef)), (29, AS.Fact.is (undef)), (30, AS.Fact.is (undef)), (31, AS.Fact.is (undef)), (32, AS.Fact.is (undef)), (33, AS.Fact.is (undef)), (34, AS.Fact.is (undef)), (35, AS.Fact.is (undef)), (36, AS.Fact.is (undef)), (37, AS.Fact.is (undef)), (38, AS.Fact.is (undef)), (39, AS.Fact.is (.bool false)), (40, AS.Fact.is (.bool false)), (41, AS.Fact.is (.bool false)), (42, AS.Fact.is (.slice (some ⟨b, off, none⟩) (n : Nat) cp)), (43, AS.Fact.is (.slice (some ⟨b, off, none⟩) (n : Nat) cp)), (44, AS.Fact.is (.int .i64 (k : Int))), (45, AS.Fact.is (.pointer (some ⟨b, off + k * 4, none⟩))), (46, AS.Fact.is (.pointer (some ⟨b, off + k * 4, none⟩))), (47, AS.Fact.is (.int .i64 x.code)), (48, HSl C), (49, AS.Fact.is (.int .i64 (cl : Int))), (50, AS.Fact.is (.slice (some ⟨b, off, none⟩) (n : Nat) cp)), (51, AS.Fact.is (.int .i64 (n : Int))), (52, AS.Fact.is (.bool q)), (53, AS.Fact.is (.bool q))]
def rvFc (b off n k j : Nat) (cp : Nat) (g : Bool) (x y : Acc) : List (Nat × AS.Fact) := [(15, AS.Fact.is (.slice (some ⟨b, off, none⟩) (n : Nat) cp)), (16, AS.Fact.is (.slice (some ⟨b, off, none⟩) (n : Nat) cp)), (17, AS.Fact.is (.int .i64 (k : Int))), (18, AS.Fact.is (.pointer (some ⟨b, off + k * 4, none⟩))), (19, AS.Fact.is (accV x)), (20, AS.Fact.is (.bool g)), (21, AS.Fact.is (.bool true)), (22, AS.Fact.is (.bool false)), (23, AS.Fact.is (.bool false)), (24, AS.Fact.is (.int .i64 (k : Int))), (25, AS.Fact.is (.bool true)), (26, AS.Fact.is (.bool true)), (27, AS.Fact.is (.slice (some ⟨b, off, none⟩) (n : Nat) cp)), (28, AS.Fact.is (.int .i64 (k : Int))), (29, AS.Fact.is (.pointer (some ⟨b, off + k * 4, none⟩))), (30, AS.Fact.is (.pointer (some ⟨b, off + k * 4, none⟩))), (31, AS.Fact.is (.int .i64 x.code)), (32, AS.Fact.is (.slice (some ⟨b, off, none⟩) (n : Nat) cp)), (33, AS.Fact.is (.int .i64 (k : Int))), (34, AS.Fact.is (.int .i64 (j : Int))), (35, AS.Fact.is (.pointer (some ⟨b, off + j * 4, none⟩))), (36, AS.Fact.is (.pointer (some ⟨b, off + j * 4, none⟩))), (37, AS.Fact.is (.int .i64 y.code)), (38, AS.Fact.is (.bool true)), (39, AS.Fact.is (.bool true)), (40, AS.Fact.is (.bool true)), (41, AS.Fact.is (.bool true)), (42, AS.Fact.is (undef)), (43, AS.Fact.is (undef)), (44, AS.Fact.is (undef)), (45, AS.Fact.is (undef)), (46, AS.Fact.is (undef)), (47, AS.Fact.is (undef)), (48, AS.Fact.is (undef)), (49, AS.Fact.is (undef)), (50, AS.Fact.is (undef)), (51, AS.Fact.is (undef)), (52, AS.Fact.is (undef)), (53, AS.Fact.is (.bool true))]
def rvFd (b off n k j : Nat) (cp : Nat) (g : Bool) (x y : Acc) (C : List Int) (cl : Nat) (q : Bool) : List (Nat × AS.Fact) := [(15, AS.Fact.is (.slice (some ⟨b, off, none⟩) (n : Nat) cp)), (16, AS.Fact.is (.slice (some ⟨b, off, none⟩) (n : Nat) cp)), (17, AS.Fact.is (.int .i64 (k : Int))), (18, AS.Fact.is (.pointer (some ⟨b, off + k * 4, none⟩))), (19, AS.Fact.is (accV x)), (20, AS.Fact.is (.bool g)), (21, AS.Fact.is (.bool true)), (22, AS.Fact.is (.bool false)), (23, AS.Fact.is (.bool false)), (24, AS.Fact.is (.int .i64 (k : Int))), (25, AS.Fact.is (.bool true)), (26, AS.Fact.is (.bool true)), (27, AS.Fact.is (.slice (some ⟨b, off, none⟩) (n : Nat) cp)), (28, AS.Fact.is (.int .i64 (k : Int))), (29, AS.Fact.is (.pointer (some ⟨b, off + k * 4, none⟩))), (30, AS.Fact.is (.pointer (some ⟨b, off + k * 4, none⟩))), (31, AS.Fact.is (.int .i64 x.code)), (32, AS.Fact.is (.slice (some ⟨b, off, none⟩) (n : Nat) cp)), (33, AS.Fact.is (.int .i64 (k : Int))), (34, AS.Fact.is (.int .i64 (j : Int))), (35, AS.Fact.is (.pointer (some ⟨b, off + j * 4, none⟩))), (36, AS.Fact.is (.pointer (some ⟨b, off + j * 4, none⟩))), (37, AS.Fact.is (.int .i64 y.code)), (38, AS.Fact.is (.bool false)), (39, AS.Fact.is (.bool false)), (40, AS.Fact.is (.bool false)), (41, AS.Fact.is (.bool false)), (42, AS.Fact.is (.slice (some ⟨b, off, none⟩) (n : Nat) cp)), (43, AS.Fact.is (.slice (some ⟨b, off, none⟩) (n : Nat) cp)), (44, AS.Fact.is (.int .i64 (k : Int))), (45, AS.Fact.is (.pointer (some ⟨b, off + k * 4, none⟩))), (46, AS.Fact.is (.pointer (some ⟨b, off + k * 4, none⟩))), (47, AS.Fact.is (.int .i64 x.code)), (48, HSl C), (49, AS.Fact.is (.int .i64 (cl : Int))), (50, AS.Fact.is (.slice (some ⟨b, off, none⟩) (n : Nat) cp)), (51, AS.Fact.is (.int .i64 (n : Int))), (52, AS.Fact.is (.bool q)), (53, AS.Fact.is (.bool q))]
set_option maxRecDepth 20000 in
set_option maxHeartbeats 3200000 in
theorem rvalid8_any (A : Option Addr) (cp : Nat) (L : List Acc) (g : Bool) (w : World) (hz : AccAt w A L) (hl : L.length ≤ 1000) :
  Calls Tryz.prog 122 #[.slice A L.length cp, .bool g] w fun e w' => e = .returned (.bool (rvB L g)) ∧ Below w.heap.size w w' := by
 have hB := Below.refl w.heap.size w
 have hPr := fun x w h => rproper_any A cp L x g w h hl
 have hCb := fun c w h => rclimb_any A cp L c w h hl
 obtain ⟨n, hn⟩ : ∃ n, L.length = n := ⟨_, rfl⟩
 have hn0 := hn
 rw [hn] at hl hPr hCb ⊢
 have HN := Lib.hid hn
 have HZ := Lib.hid hz
 have HPr := Lib.hid hPr
 have HCb := Lib.hid hCb
 clear hn hz hPr hCb
 by_cases hbig : 200 < n
 ·have E : Hid (rvB L g = false) := Lib.hid (by unfold rvB; rw [decide_eq_false (by omega)]; rfl)
  have e1 : decide ((200 : Int) < (n : Int)) = true := decide_eq_true (by omega)
  clear hn0
  go_enter Tryz.func122, Tryz.ntmps122
  go_wp2_with fail
  go_ret
  exact ⟨by rw [E.out]; rfl, hB⟩
 have HV : Hid (rvB L g = rowsTo L g n) := Lib.hid (by unfold rvB; rw [decide_eq_true (by omega), hn0]; rfl)
 have e1 : decide ((200 : Int) < (n : Int)) = false := decide_eq_false (by omega)
 clear hn0
 go_enter Tryz.func122, Tryz.ntmps122
 go_wp2_with fail
 go_loopg [5] n (fun kx s5 wr => ∃ k : Nat, s5 = .int .i64 k ∧ k ≤ n ∧ n - k ≤ kx ∧ Hid (rowsTo L g k = true) ∧ Below w.heap.size w wr)
 case atStart => exact ⟨0, rfl, by omega, by omega, Lib.hid rfl, hB⟩
 case round =>
  clear hB
  obtain ⟨k, rfl, hk, hkx, HR, hB⟩ := hrel
  by_cases hlt : k < n
  ·have hltz : (k : Int) < (n : Int) := by omega
   have HZW := Lib.hid (HZ.out.up hB)
   obtain ⟨b, off, rfl, hbw, hcs⟩ := HZW.out (by rw [HN.out]; omega)
   have hbW : b < wr.heap.size := hbw
   obtain ⟨x, hx⟩ : ∃ x, L.getD k acc0 = x := ⟨_, rfl⟩
   have hx4 := hcs k (by rw [HN.out]; exact hlt)
   rw [hx] at hx4
   have HX := Lib.hid hx
   have HX4 := Lib.hid hx4
   have HCS := Lib.hid hcs
   have hpr := HPr.out x
   have hcb := HCb.out x.code
   clear hcs hx hx4 hbw
   go_wp2_with fail
   cases hp : properB L g x
   ·have E : Hid (rvB L g = false) := Lib.hid (rvB_no (k := k) (by rw [HN.out]; exact hlt) (rowB_prop (by rw [HX.out]; exact hp)))
    rw [hp] at hpr
    replace HPr := Lib.hid hpr
    clear hpr hcb HCb hp
    refine AS.region_facts (rvFa b off n k cp g x) (HNo wr) [[], [], [], [16, 17], [18], [], [15, 19, 20], [21], [22], [23], [23], [23], [26], [26], [26], [26], [26], [26], [26], [26], [26], [26], [26], [26], [23], [23, 39], [40], [41], [41], [41], [41], [41], [41], [41], [41], [41], [41], [41], [41, 52]] [] [[]] [0, 0, 0, 0, 0, 0, 0, 0, 0, 0, 0, 0, 0, 0, 0, 0, 0, 0, 0, 0, 0, 0, 0, 0, 0, 0, 0, 0, 0, 0, 0, 0, 0, 0, 0, 0, 0, 0, 0] [] (fun u => by simp only [rvFa, AS.temps, List.map_cons, List.map_nil, fillL, List.setIfInBounds_toArray, List.set_cons_zero, List.set_cons_succ]; rfl) (by kernel_rfl) (by kernel_rfl) (HNo.st wr) (dc_drew (Below.refl _ _)) ?_ ?_
    ·refine AS.sc rfl rfl rfl ?_ ?_
     ·intro k_ u w_ hk_ hJ hF K hK
      clear hF
      go_simp
      exact hK.out _ _ (Below.refl _ _) (rfl) trivial
     refine AS.sc rfl rfl rfl ?_ ?_
     ·intro k_ u w_ hk_ hJ hF K hK
      clear hF
      go_simp
      exact hK.out _ _ (Below.refl _ _) (rfl) trivial
     refine AS.sc rfl rfl rfl ?_ ?_
     ·intro k_ u w_ hk_ hJ hF K hK
      clear hF
      go_simp
      exact hK.out _ _ (Below.refl _ _) (rfl) trivial
     refine AS.sc rfl rfl rfl ?_ ?_
     ·intro k_ u w_ hk_ hJ hF K hK
      have h16 : u 16 = .slice (some ⟨b, off, none⟩) (n : Nat) cp := AS.facts_get hF 16 (by simp)
      have h17 : u 17 = .int .i64 (k : Int) := AS.facts_get hF 17 (by simp)
      clear hF
      simp only [h16, h17] at hK ⊢
      clear h16 h17
      go_simp
      exact hK.out _ _ (Below.refl _ _) (rfl) trivial
     refine AS.sc rfl rfl rfl ?_ ?_
     ·intro k_ u w_ hk_ hJ hF K hK
      have h18 : u 18 = .pointer (some ⟨b, off + k * 4, none⟩) := AS.facts_get hF 18 (by simp)
      clear hF
      simp only [h18] at hK ⊢
      clear h18
      obtain ⟨c0, c1, c2, c3⟩ := HX4.out.up (hJ : Below wr.heap.size wr w_) hbW
      go_simp
      exact hK.out _ _ (Below.refl _ _) (rfl) trivial
     refine AS.sc rfl rfl rfl ?_ ?_
     ·intro k_ u w_ hk_ hJ hF K hK
      clear hF
      go_simp
      exact hK.out _ _ (Below.refl _ _) (rfl) trivial
     refine AS.sc rfl rfl rfl ?_ ?_
     ·intro k_ u w_ hk_ hJ hF K hK
      have h15 : u 15 = .slice (some ⟨b, off, none⟩) (n : Nat) cp := AS.facts_get hF 15 (by simp)
      have h19 : u 19 = accV x := AS.facts_get hF 19 (by simp)
      have h20 : u 20 = .bool g := AS.facts_get hF 20 (by simp)
      clear hF
      simp only [h15, h19, h20] at hK ⊢
      clear h15 h19 h20
      have hz9 := HZW.out.up (hJ : Below wr.heap.size wr w_)
      go_simp
      refine (HPr.out _ hz9).mono ?_
      rintro e w3 ⟨rfl, hb⟩
      exact hK.out _ _ hb (rfl) trivial
     refine AS.sc rfl rfl rfl ?_ ?_
     ·intro k_ u w_ hk_ hJ hF K hK
      have h21 : u 21 = .bool false := AS.facts_get hF 21 (by simp)
      clear hF
      simp only [h21] at hK ⊢
      clear h21
      go_simp
      exact hK.out _ _ (Below.refl _ _) (rfl) trivial
     refine AS.sc rfl rfl rfl ?_ ?_
     ·intro k_ u w_ hk_ hJ hF K hK
      have h22 : u 22 = .bool true := AS.facts_get hF 22 (by simp)
      clear hF
      simp only [h22] at hK ⊢
      clear h22
      go_simp
      exact hK.out _ _ (Below.refl _ _) (rfl) trivial
     refine AS.sc rfl rfl rfl ?_ ?_
     ·intro k_ u w_ hk_ hJ hF K hK
      have h23 : u 23 = .bool true := AS.facts_get hF 23 (by simp)
      clear hF
      simp only [h23] at hK ⊢
      clear h23
      go_simp
      exact hK.out _ _ (Below.refl _ _) (rfl) trivial
     refine AS.sc rfl rfl rfl ?_ ?_
     ·intro k_ u w_ hk_ hJ hF K hK
      have h23 : u 23 = .bool true := AS.facts_get hF 23 (by simp)
      clear hF
      simp only [h23] at hK ⊢
      clear h23
      go_simp
      exact hK.out _ _ (Below.refl _ _) (rfl) trivial
     refine AS.sc rfl rfl rfl ?_ ?_
     ·intro k_ u w_ hk_ hJ hF K hK
      have h23 : u 23 = .bool true := AS.facts_get hF 23 (by simp)
      clear hF
      simp only [h23] at hK ⊢
      clear h23
      go_simp
      exact hK.out _ _ (Below.refl _ _) (rfl) trivial
     refine AS.sc rfl rfl rfl ?_ ?_
     ·intro k_ u w_ hk_ hJ hF K hK
      have h26 : u 26 = undef := AS.facts_get hF 26 (by simp)
      clear hF
      simp only [h26] at hK ⊢
      clear h26
      go_simp
      exact hK.out _ _ (Below.refl _ _) (rfl) trivial
     refine AS.sc rfl rfl rfl ?_ ?_
     ·intro k_ u w_ hk_ hJ hF K hK
      have h26 : u 26 = undef := AS.facts_get hF 26 (by simp)
      clear hF
      simp only [h26] at hK ⊢
      clear h26
      go_simp
      exact hK.out _ _ (Below.refl _ _) (rfl) trivial
     refine AS.sc rfl rfl rfl ?_ ?_
     ·intro k_ u w_ hk_ hJ hF K hK
      have h26 : u 26 = undef := AS.facts_get hF 26 (by simp)
      clear hF
      simp only [h26] at hK ⊢
      clear h26
      go_simp
      exact hK.out _ _ (Below.refl _ _) (rfl) trivial
     refine AS.sc rfl rfl rfl ?_ ?_
     ·intro k_ u w_ hk_ hJ hF K hK
      have h26 : u 26 = undef := AS.facts_get hF 26 (by simp)
      clear hF
      simp only [h26] at hK ⊢
      clear h26
      go_simp
      exact hK.out _ _ (Below.refl _ _) (rfl) trivial
     refine AS.sc rfl rfl rfl ?_ ?_
     ·intro k_ u w_ hk_ hJ hF K hK
      have h26 : u 26 = undef := AS.facts_get hF 26 (by simp)
      clear hF
      simp only [h26] at hK ⊢
      clear h26
      go_simp
      exact hK.out _ _ (Below.refl _ _) (rfl) trivial
     refine AS.sc rfl rfl rfl ?_ ?_
     ·intro k_ u w_ hk_ hJ hF K hK
      have h26 : u 26 = undef := AS.facts_get hF 26 (by simp)
      clear hF
      simp only [h26] at hK ⊢
      clear h26
      go_simp
      exact hK.out _ _ (Below.refl _ _) (rfl) trivial
     refine AS.sc rfl rfl rfl ?_ ?_
     ·intro k_ u w_ hk_ hJ hF K hK
      have h26 : u 26 = undef := AS.facts_get hF 26 (by simp)
      clear hF
      simp only [h26] at hK ⊢
      clear h26
      go_simp
      exact hK.out _ _ (Below.refl _ _) (rfl) trivial
     refine AS.sc rfl rfl rfl ?_ ?_
     ·intro k_ u w_ hk_ hJ hF K hK
      have h26 : u 26 = undef := AS.facts_get hF 26 (by simp)
      clear hF
      simp only [h26] at hK ⊢
      clear h26
      go_simp
      exact hK.out _ _ (Below.refl _ _) (rfl) trivial
     refine AS.sc rfl rfl rfl ?_ ?_
     ·intro k_ u w_ hk_ hJ hF K hK
      have h26 : u 26 = undef := AS.facts_get hF 26 (by simp)
      clear hF
      simp only [h26] at hK ⊢
      clear h26
      go_simp
      exact hK.out _ _ (Below.refl _ _) (rfl) trivial
     refine AS.sc rfl rfl rfl ?_ ?_
     ·intro k_ u w_ hk_ hJ hF K hK
      have h26 : u 26 = undef := AS.facts_get hF 26 (by simp)
      clear hF
      simp only [h26] at hK ⊢
      clear h26
      go_simp
      exact hK.out _ _ (Below.refl _ _) (rfl) trivial
     refine AS.sc rfl rfl rfl ?_ ?_
     ·intro k_ u w_ hk_ hJ hF K hK
      have h26 : u 26 = undef := AS.facts_get hF 26 (by simp)
      clear hF
      simp only [h26] at hK ⊢
      clear h26
      go_simp
      exact hK.out _ _ (Below.refl _ _) (rfl) trivial
     refine AS.sc rfl rfl rfl ?_ ?_
     ·intro k_ u w_ hk_ hJ hF K hK
      have h26 : u 26 = undef := AS.facts_get hF 26 (by simp)
      clear hF
      simp only [h26] at hK ⊢
      clear h26
      go_simp
      exact hK.out _ _ (Below.refl _ _) (rfl) trivial
     refine AS.sc rfl rfl rfl ?_ ?_
     ·intro k_ u w_ hk_ hJ hF K hK
      have h23 : u 23 = .bool true := AS.facts_get hF 23 (by simp)
      clear hF
      simp only [h23] at hK ⊢
      clear h23
      go_simp
      exact hK.out _ _ (Below.refl _ _) (rfl) trivial
     refine AS.sc rfl rfl rfl ?_ ?_
     ·intro k_ u w_ hk_ hJ hF K hK
      have h23 : u 23 = .bool true := AS.facts_get hF 23 (by simp)
      have h39 : u 39 = undef := AS.facts_get hF 39 (by simp)
      clear hF
      simp only [h23, h39] at hK ⊢
      clear h23 h39
      go_simp
      exact hK.out _ _ (Below.refl _ _) (rfl) trivial
     refine AS.sc rfl rfl rfl ?_ ?_
     ·intro k_ u w_ hk_ hJ hF K hK
      have h40 : u 40 = .bool true := AS.facts_get hF 40 (by simp)
      clear hF
      simp only [h40] at hK ⊢
      clear h40
      go_simp
      exact hK.out _ _ (Below.refl _ _) (rfl) trivial
     refine AS.sc rfl rfl rfl ?_ ?_
     ·intro k_ u w_ hk_ hJ hF K hK
      have h41 : u 41 = .bool true := AS.facts_get hF 41 (by simp)
      clear hF
      simp only [h41] at hK ⊢
      clear h41
      go_simp
      exact hK.out _ _ (Below.refl _ _) (rfl) trivial
     refine AS.sc rfl rfl rfl ?_ ?_
     ·intro k_ u w_ hk_ hJ hF K hK
      have h41 : u 41 = .bool true := AS.facts_get hF 41 (by simp)
      clear hF
      simp only [h41] at hK ⊢
      clear h41
      go_simp
      exact hK.out _ _ (Below.refl _ _) (rfl) trivial
     refine AS.sc rfl rfl rfl ?_ ?_
     ·intro k_ u w_ hk_ hJ hF K hK
      have h41 : u 41 = .bool true := AS.facts_get hF 41 (by simp)
      clear hF
      simp only [h41] at hK ⊢
      clear h41
      go_simp
      exact hK.out _ _ (Below.refl _ _) (rfl) trivial
     refine AS.sc rfl rfl rfl ?_ ?_
     ·intro k_ u w_ hk_ hJ hF K hK
      have h41 : u 41 = .bool true := AS.facts_get hF 41 (by simp)
      clear hF
      simp only [h41] at hK ⊢
      clear h41
      go_simp
      exact hK.out _ _ (Below.refl _ _) (rfl) trivial
     refine AS.sc rfl rfl rfl ?_ ?_
     ·intro k_ u w_ hk_ hJ hF K hK
      have h41 : u 41 = .bool true := AS.facts_get hF 41 (by simp)
      clear hF
      simp only [h41] at hK ⊢
      clear h41
      go_simp
      exact hK.out _ _ (Below.refl _ _) (rfl) trivial
     refine AS.sc rfl rfl rfl ?_ ?_
     ·intro k_ u w_ hk_ hJ hF K hK
      have h41 : u 41 = .bool true := AS.facts_get hF 41 (by simp)
      clear hF
      simp only [h41] at hK ⊢
      clear h41
      go_simp
      exact hK.out _ _ (Below.refl _ _) (rfl) trivial
     refine AS.sc rfl rfl rfl ?_ ?_
     ·intro k_ u w_ hk_ hJ hF K hK
      have h41 : u 41 = .bool true := AS.facts_get hF 41 (by simp)
      clear hF
      simp only [h41] at hK ⊢
      clear h41
      go_simp
      exact hK.out _ _ (Below.refl _ _) (rfl) trivial
     refine AS.sc rfl rfl rfl ?_ ?_
     ·intro k_ u w_ hk_ hJ hF K hK
      have h41 : u 41 = .bool true := AS.facts_get hF 41 (by simp)
      clear hF
      simp only [h41] at hK ⊢
      clear h41
      go_simp
      exact hK.out _ _ (Below.refl _ _) (rfl) trivial
     refine AS.sc rfl rfl rfl ?_ ?_
     ·intro k_ u w_ hk_ hJ hF K hK
      have h41 : u 41 = .bool true := AS.facts_get hF 41 (by simp)
      clear hF
      simp only [h41] at hK ⊢
      clear h41
      go_simp
      exact hK.out _ _ (Below.refl _ _) (rfl) trivial
     refine AS.sc rfl rfl rfl ?_ ?_
     ·intro k_ u w_ hk_ hJ hF K hK
      have h41 : u 41 = .bool true := AS.facts_get hF 41 (by simp)
      clear hF
      simp only [h41] at hK ⊢
      clear h41
      go_simp
      exact hK.out _ _ (Below.refl _ _) (rfl) trivial
     refine AS.sc rfl rfl rfl ?_ ?_
     ·intro k_ u w_ hk_ hJ hF K hK
      have h41 : u 41 = .bool true := AS.facts_get hF 41 (by simp)
      clear hF
      simp only [h41] at hK ⊢
      clear h41
      go_simp
      exact hK.out _ _ (Below.refl _ _) (rfl) trivial
     refine AS.sc rfl rfl rfl ?_ ?_
     ·intro k_ u w_ hk_ hJ hF K hK
      have h41 : u 41 = .bool true := AS.facts_get hF 41 (by simp)
      have h52 : u 52 = undef := AS.facts_get hF 52 (by simp)
      clear hF
      simp only [h41, h52] at hK ⊢
      clear h41 h52
      go_simp
      exact hK.out _ _ (Below.refl _ _) (rfl) trivial
     exact AS.StepsOk.nil
    ·intro u W9 hJ9 hF
     have h53 : u 53 = .bool true := AS.facts_get hF 53 (by simp [rvFa, AS.temps])
     have hB9 : Below wr.heap.size wr W9 := hJ9
     clear hF hJ9
     simp only [h53]
     clear h53
     go_wp2_with fail
     go_ret
     exact ⟨by rw [E.out]; rfl, hB.trans (hB9.mono hB.size)⟩
   ·rw [hp] at hpr
    replace HPr := Lib.hid hpr
    have htb : topB L x = decide ((climb L x.code).length ≤ L.length) := rfl
    obtain ⟨C, hC⟩ : ∃ C, climb L x.code = C := ⟨_, rfl⟩
    obtain ⟨cl, hcl⟩ : ∃ cl, C.length = cl := ⟨_, rfl⟩
    rw [hC] at hcb
    rw [hC, hcl, HN.out] at htb
    replace HCb := Lib.hid hcb
    have HCL := Lib.hid hcl
    have HTB := Lib.hid htb
    have hcl2 : cl ≤ 2000 := by have := climb_le (L := L) (c := x.code); rw [hC, hcl, HN.out] at this; omega
    have HP := Lib.hid hp
    clear hpr hcb hp hC hcl htb
    obtain ⟨q, hq⟩ : ∃ q, decide (n < cl) = q := ⟨_, rfl⟩
    have HTQ : Hid (topB L x = !q) := Lib.hid (by
     rw [HTB.out, ← hq]
     rcases Nat.lt_or_ge n cl with h1 | h1
     ·rw [decide_eq_false (show ¬ cl ≤ n by omega), decide_eq_true (show n < cl by omega)]; rfl
     ·rw [decide_eq_true (show cl ≤ n by omega), decide_eq_false (show ¬ n < cl by omega)]; rfl)
    rcases Nat.eq_zero_or_pos k with hk0 | hk0
    ·have HQ : Hid (rowB L g k = !q) := Lib.hid (by subst hk0; rw [rowB_zero (by rw [HX.out]; exact HP.out), HX.out]; exact HTQ.out)
     have e2 : decide (0 < k) = false := decide_eq_false (by omega)
     clear hk0
     refine AS.region_facts (rvFb b off n k cp g x C cl q) (HNo wr) [[], [], [], [16, 17], [18], [], [15, 19, 20], [21], [22], [23], [24, 23], [25, 23], [26], [26], [26], [26], [26], [26], [26], [26], [26], [26], [26], [26], [26, 38, 23], [23, 39], [40], [41], [41], [41], [43, 44, 41], [45, 41], [46, 41], [42, 47, 41], [48, 41], [41], [50, 41], [49, 51, 41], [41, 52]] [] [[]] [0, 0, 0, 0, 0, 0, 0, 0, 0, 0, 0, 0, 0, 0, 0, 0, 0, 0, 0, 0, 0, 0, 0, 0, 0, 0, 0, 0, 0, 0, 0, 0, 0, 0, 0, 0, 0, 0, 0] [] (fun u => by simp only [rvFb, AS.temps, List.map_cons, List.map_nil, fillL, List.setIfInBounds_toArray, List.set_cons_zero, List.set_cons_succ]; rfl) (by kernel_rfl) (by kernel_rfl) (HNo.st wr) (dc_drew (Below.refl _ _)) ?_ ?_
     ·refine AS.sc rfl rfl rfl ?_ ?_
      ·intro k_ u w_ hk_ hJ hF K hK
       clear hF
       go_simp
       exact hK.out _ _ (Below.refl _ _) (rfl) trivial
      refine AS.sc rfl rfl rfl ?_ ?_
      ·intro k_ u w_ hk_ hJ hF K hK
       clear hF
       go_simp
       exact hK.out _ _ (Below.refl _ _) (rfl) trivial
      refine AS.sc rfl rfl rfl ?_ ?_
      ·intro k_ u w_ hk_ hJ hF K hK
       clear hF
       go_simp
       exact hK.out _ _ (Below.refl _ _) (rfl) trivial
      refine AS.sc rfl rfl rfl ?_ ?_
      ·intro k_ u w_ hk_ hJ hF K hK
       have h16 : u 16 = .slice (some ⟨b, off, none⟩) (n : Nat) cp := AS.facts_get hF 16 (by simp)
       have h17 : u 17 = .int .i64 (k : Int) := AS.facts_get hF 17 (by simp)
       clear hF
       simp only [h16, h17] at hK ⊢
       clear h16 h17
       go_simp
       exact hK.out _ _ (Below.refl _ _) (rfl) trivial
      refine AS.sc rfl rfl rfl ?_ ?_
      ·intro k_ u w_ hk_ hJ hF K hK
       have h18 : u 18 = .pointer (some ⟨b, off + k * 4, none⟩) := AS.facts_get hF 18 (by simp)
       clear hF
       simp only [h18] at hK ⊢
       clear h18
       obtain ⟨c0, c1, c2, c3⟩ := HX4.out.up (hJ : Below wr.heap.size wr w_) hbW
       go_simp
       exact hK.out _ _ (Below.refl _ _) (rfl) trivial
      refine AS.sc rfl rfl rfl ?_ ?_
      ·intro k_ u w_ hk_ hJ hF K hK
       clear hF
       go_simp
       exact hK.out _ _ (Below.refl _ _) (rfl) trivial
      refine AS.sc rfl rfl rfl ?_ ?_
      ·intro k_ u w_ hk_ hJ hF K hK
       have h15 : u 15 = .slice (some ⟨b, off, none⟩) (n : Nat) cp := AS.facts_get hF 15 (by simp)
       have h19 : u 19 = accV x := AS.facts_get hF 19 (by simp)
       have h20 : u 20 = .bool g := AS.facts_get hF 20 (by simp)
       clear hF
       simp only [h15, h19, h20] at hK ⊢
       clear h15 h19 h20
       have hz9 := HZW.out.up (hJ : Below wr.heap.size wr w_)
       go_simp
       refine (HPr.out _ hz9).mono ?_
       rintro e w3 ⟨rfl, hb⟩
       exact hK.out _ _ hb (rfl) trivial
      refine AS.sc rfl rfl rfl ?_ ?_
      ·intro k_ u w_ hk_ hJ hF K hK
       have h21 : u 21 = .bool true := AS.facts_get hF 21 (by simp)
       clear hF
       simp only [h21] at hK ⊢
       clear h21
       go_simp
       exact hK.out _ _ (Below.refl _ _) (rfl) trivial
      refine AS.sc rfl rfl rfl ?_ ?_
      ·intro k_ u w_ hk_ hJ hF K hK
       have h22 : u 22 = .bool false := AS.facts_get hF 22 (by simp)
       clear hF
       simp only [h22] at hK ⊢
       clear h22
       go_simp
       exact hK.out _ _ (Below.refl _ _) (rfl) trivial
      refine AS.sc rfl rfl rfl ?_ ?_
      ·intro k_ u w_ hk_ hJ hF K hK
       have h23 : u 23 = .bool false := AS.facts_get hF 23 (by simp)
       clear hF
       simp only [h23] at hK ⊢
       clear h23
       go_simp
       exact hK.out _ _ (Below.refl _ _) (rfl) trivial
      refine AS.sc rfl rfl rfl ?_ ?_
      ·intro k_ u w_ hk_ hJ hF K hK
       have h24 : u 24 = .int .i64 (k : Int) := AS.facts_get hF 24 (by simp)
       have h23 : u 23 = .bool false := AS.facts_get hF 23 (by simp)
       clear hF
       simp only [h24, h23] at hK ⊢
       clear h24 h23
       go_simp
       exact hK.out _ _ (Below.refl _ _) (rfl) trivial
      refine AS.sc rfl rfl rfl ?_ ?_
      ·intro k_ u w_ hk_ hJ hF K hK
       have h25 : u 25 = .bool false := AS.facts_get hF 25 (by simp)
       have h23 : u 23 = .bool false := AS.facts_get hF 23 (by simp)
       clear hF
       simp only [h25, h23] at hK ⊢
       clear h25 h23
       go_simp
       exact hK.out _ _ (Below.refl _ _) (rfl) trivial
      refine AS.sc rfl rfl rfl ?_ ?_
      ·intro k_ u w_ hk_ hJ hF K hK
       have h26 : u 26 = .bool false := AS.facts_get hF 26 (by simp)
       clear hF
       simp only [h26] at hK ⊢
       clear h26
       go_simp
       exact hK.out _ _ (Below.refl _ _) (rfl) trivial
      refine AS.sc rfl rfl rfl ?_ ?_
      ·intro k_ u w_ hk_ hJ hF K hK
       have h26 : u 26 = .bool false := AS.facts_get hF 26 (by simp)
       clear hF
       simp only [h26] at hK ⊢
       clear h26
       go_simp
       exact hK.out _ _ (Below.refl _ _) (rfl) trivial
      refine AS.sc rfl rfl rfl ?_ ?_
      ·intro k_ u w_ hk_ hJ hF K hK
       have h26 : u 26 = .bool false := AS.facts_get hF 26 (by simp)
       clear hF
       simp only [h26] at hK ⊢
       clear h26
       go_simp
       exact hK.out _ _ (Below.refl _ _) (rfl) trivial
      refine AS.sc rfl rfl rfl ?_ ?_
      ·intro k_ u w_ hk_ hJ hF K hK
       have h26 : u 26 = .bool false := AS.facts_get hF 26 (by simp)
       clear hF
       simp only [h26] at hK ⊢
       clear h26
       go_simp
       exact hK.out _ _ (Below.refl _ _) (rfl) trivial
      refine AS.sc rfl rfl rfl ?_ ?_
      ·intro k_ u w_ hk_ hJ hF K hK
       have h26 : u 26 = .bool false := AS.facts_get hF 26 (by simp)
       clear hF
       simp only [h26] at hK ⊢
       clear h26
       go_simp
       exact hK.out _ _ (Below.refl _ _) (rfl) trivial
      refine AS.sc rfl rfl rfl ?_ ?_
      ·intro k_ u w_ hk_ hJ hF K hK
       have h26 : u 26 = .bool false := AS.facts_get hF 26 (by simp)
       clear hF
       simp only [h26] at hK ⊢
       clear h26
       go_simp
       exact hK.out _ _ (Below.refl _ _) (rfl) trivial
      refine AS.sc rfl rfl rfl ?_ ?_
      ·intro k_ u w_ hk_ hJ hF K hK
       have h26 : u 26 = .bool false := AS.facts_get hF 26 (by simp)
       clear hF
       simp only [h26] at hK ⊢
       clear h26
       go_simp
       exact hK.out _ _ (Below.refl _ _) (rfl) trivial
      refine AS.sc rfl rfl rfl ?_ ?_
      ·intro k_ u w_ hk_ hJ hF K hK
       have h26 : u 26 = .bool false := AS.facts_get hF 26 (by simp)
       clear hF
       simp only [h26] at hK ⊢
       clear h26
       go_simp
       exact hK.out _ _ (Below.refl _ _) (rfl) trivial
      refine AS.sc rfl rfl rfl ?_ ?_
      ·intro k_ u w_ hk_ hJ hF K hK
       have h26 : u 26 = .bool false := AS.facts_get hF 26 (by simp)
       clear hF
       simp only [h26] at hK ⊢
       clear h26
       go_simp
       exact hK.out _ _ (Below.refl _ _) (rfl) trivial
      refine AS.sc rfl rfl rfl ?_ ?_
      ·intro k_ u w_ hk_ hJ hF K hK
       have h26 : u 26 = .bool false := AS.facts_get hF 26 (by simp)
       clear hF
       simp only [h26] at hK ⊢
       clear h26
       go_simp
       exact hK.out _ _ (Below.refl _ _) (rfl) trivial
      refine AS.sc rfl rfl rfl ?_ ?_
      ·intro k_ u w_ hk_ hJ hF K hK
       have h26 : u 26 = .bool false := AS.facts_get hF 26 (by simp)
       clear hF
       simp only [h26] at hK ⊢
       clear h26
       go_simp
       exact hK.out _ _ (Below.refl _ _) (rfl) trivial
      refine AS.sc rfl rfl rfl ?_ ?_
      ·intro k_ u w_ hk_ hJ hF K hK
       have h26 : u 26 = .bool false := AS.facts_get hF 26 (by simp)
       clear hF
       simp only [h26] at hK ⊢
       clear h26
       go_simp
       exact hK.out _ _ (Below.refl _ _) (rfl) trivial
      refine AS.sc rfl rfl rfl ?_ ?_
      ·intro k_ u w_ hk_ hJ hF K hK
       have h26 : u 26 = .bool false := AS.facts_get hF 26 (by simp)
       have h38 : u 38 = undef := AS.facts_get hF 38 (by simp)
       have h23 : u 23 = .bool false := AS.facts_get hF 23 (by simp)
       clear hF
       simp only [h26, h38, h23] at hK ⊢
       clear h26 h38 h23
       go_simp
       exact hK.out _ _ (Below.refl _ _) (rfl) trivial
      refine AS.sc rfl rfl rfl ?_ ?_
      ·intro k_ u w_ hk_ hJ hF K hK
       have h23 : u 23 = .bool false := AS.facts_get hF 23 (by simp)
       have h39 : u 39 = .bool false := AS.facts_get hF 39 (by simp)
       clear hF
       simp only [h23, h39] at hK ⊢
       clear h23 h39
       go_simp
       exact hK.out _ _ (Below.refl _ _) (rfl) trivial
      refine AS.sc rfl rfl rfl ?_ ?_
      ·intro k_ u w_ hk_ hJ hF K hK
       have h40 : u 40 = .bool false := AS.facts_get hF 40 (by simp)
       clear hF
       simp only [h40] at hK ⊢
       clear h40
       go_simp
       exact hK.out _ _ (Below.refl _ _) (rfl) trivial
      refine AS.sc rfl rfl rfl ?_ ?_
      ·intro k_ u w_ hk_ hJ hF K hK
       have h41 : u 41 = .bool false := AS.facts_get hF 41 (by simp)
       clear hF
       simp only [h41] at hK ⊢
       clear h41
       go_simp
       exact hK.out _ _ (Below.refl _ _) (rfl) trivial
      refine AS.sc rfl rfl rfl ?_ ?_
      ·intro k_ u w_ hk_ hJ hF K hK
       have h41 : u 41 = .bool false := AS.facts_get hF 41 (by simp)
       clear hF
       simp only [h41] at hK ⊢
       clear h41
       go_simp
       exact hK.out _ _ (Below.refl _ _) (rfl) trivial
      refine AS.sc rfl rfl rfl ?_ ?_
      ·intro k_ u w_ hk_ hJ hF K hK
       have h41 : u 41 = .bool false := AS.facts_get hF 41 (by simp)
       clear hF
       simp only [h41] at hK ⊢
       clear h41
       go_simp
       exact hK.out _ _ (Below.refl _ _) (rfl) trivial
      refine AS.sc rfl rfl rfl ?_ ?_
      ·intro k_ u w_ hk_ hJ hF K hK
       have h43 : u 43 = .slice (some ⟨b, off, none⟩) (n : Nat) cp := AS.facts_get hF 43 (by simp)
       have h44 : u 44 = .int .i64 (k : Int) := AS.facts_get hF 44 (by simp)
       have h41 : u 41 = .bool false := AS.facts_get hF 41 (by simp)
       clear hF
       simp only [h43, h44, h41] at hK ⊢
       clear h43 h44 h41
       go_simp
       exact hK.out _ _ (Below.refl _ _) (rfl) trivial
      refine AS.sc rfl rfl rfl ?_ ?_
      ·intro k_ u w_ hk_ hJ hF K hK
       have h45 : u 45 = .pointer (some ⟨b, off + k * 4, none⟩) := AS.facts_get hF 45 (by simp)
       have h41 : u 41 = .bool false := AS.facts_get hF 41 (by simp)
       clear hF
       simp only [h45, h41] at hK ⊢
       clear h45 h41
       go_simp
       exact hK.out _ _ (Below.refl _ _) (rfl) trivial
      refine AS.sc rfl rfl rfl ?_ ?_
      ·intro k_ u w_ hk_ hJ hF K hK
       have h46 : u 46 = .pointer (some ⟨b, off + k * 4, none⟩) := AS.facts_get hF 46 (by simp)
       have h41 : u 41 = .bool false := AS.facts_get hF 41 (by simp)
       clear hF
       simp only [h46, h41] at hK ⊢
       clear h46 h41
       obtain ⟨c0, c1, c2, c3⟩ := HX4.out.up (hJ : Below wr.heap.size wr w_) hbW
       go_simp
       exact hK.out _ _ (Below.refl _ _) (rfl) trivial
      refine AS.sc rfl rfl rfl ?_ ?_
      ·intro k_ u w_ hk_ hJ hF K hK
       have h42 : u 42 = .slice (some ⟨b, off, none⟩) (n : Nat) cp := AS.facts_get hF 42 (by simp)
       have h47 : u 47 = .int .i64 x.code := AS.facts_get hF 47 (by simp)
       have h41 : u 41 = .bool false := AS.facts_get hF 41 (by simp)
       clear hF
       simp only [h42, h47, h41] at hK ⊢
       clear h42 h47 h41
       have hz9 := HZW.out.up (hJ : Below wr.heap.size wr w_)
       go_simp
       refine (HCb.out _ hz9).mono ?_
       rintro e w3 ⟨v, rfl, h9, hb⟩
       exact hK.out _ _ hb h9 trivial
      refine AS.sc rfl rfl rfl ?_ ?_
      ·intro k_ u w_ hk_ hJ hF K hK
       have h48 : SlI w_ (u 48) C := AS.facts_get hF 48 (by simp)
       have h41 : u 41 = .bool false := AS.facts_get hF 41 (by simp)
       clear hF
       obtain ⟨A8, d8, h48, -⟩ := h48
       rw [HCL.out] at h48
       simp only [h48, h41] at hK ⊢
       clear h48 h41
       go_simp
       exact hK.out _ _ (Below.refl _ _) (rfl) trivial
      refine AS.sc rfl rfl rfl ?_ ?_
      ·intro k_ u w_ hk_ hJ hF K hK
       have h41 : u 41 = .bool false := AS.facts_get hF 41 (by simp)
       clear hF
       simp only [h41] at hK ⊢
       clear h41
       go_simp
       exact hK.out _ _ (Below.refl _ _) (rfl) trivial
      refine AS.sc rfl rfl rfl ?_ ?_
      ·intro k_ u w_ hk_ hJ hF K hK
       have h50 : u 50 = .slice (some ⟨b, off, none⟩) (n : Nat) cp := AS.facts_get hF 50 (by simp)
       have h41 : u 41 = .bool false := AS.facts_get hF 41 (by simp)
       clear hF
       simp only [h50, h41] at hK ⊢
       clear h50 h41
       go_simp
       exact hK.out _ _ (Below.refl _ _) (rfl) trivial
      refine AS.sc rfl rfl rfl ?_ ?_
      ·intro k_ u w_ hk_ hJ hF K hK
       have h49 : u 49 = .int .i64 (cl : Int) := AS.facts_get hF 49 (by simp)
       have h51 : u 51 = .int .i64 (n : Int) := AS.facts_get hF 51 (by simp)
       have h41 : u 41 = .bool false := AS.facts_get hF 41 (by simp)
       clear hF
       simp only [h49, h51, h41] at hK ⊢
       clear h49 h51 h41
       go_simp
       exact hK.out _ _ (Below.refl _ _) (rfl) trivial
      refine AS.sc rfl rfl rfl ?_ ?_
      ·intro k_ u w_ hk_ hJ hF K hK
       have h41 : u 41 = .bool false := AS.facts_get hF 41 (by simp)
       have h52 : u 52 = .bool q := AS.facts_get hF 52 (by simp)
       clear hF
       simp only [h41, h52] at hK ⊢
       clear h41 h52
       go_simp
       exact hK.out _ _ (Below.refl _ _) (rfl) trivial
      exact AS.StepsOk.nil
     ·intro u W9 hJ9 hF
      have h53 : u 53 = .bool q := AS.facts_get hF 53 (by simp [rvFb, AS.temps])
      have hB9 : Below wr.heap.size wr W9 := hJ9
      clear hF hJ9
      simp only [h53]
      clear h53
      cases q
      ·have HR2 : Hid (rowsTo L g (k + 1) = true) := Lib.hid (by rw [rowsTo, HR.out, HQ.out]; rfl)
       go_wp2_with fail
       go_roundg (n - (k + 1))
       case measure => omega
       case rel => exact ⟨k + 1, by go_num, by omega, by omega, HR2, hB.trans (hB9.mono hB.size)⟩
      ·have E : Hid (rvB L g = false) := Lib.hid (rvB_no (k := k) (by rw [HN.out]; exact hlt) HQ.out)
       go_wp2_with fail
       go_ret
       exact ⟨by rw [E.out]; rfl, hB.trans (hB9.mono hB.size)⟩
    ·obtain ⟨j, hj⟩ : ∃ j, k = j + 1 := ⟨k - 1, by omega⟩
     have hjn : j < n := by omega
     have hjz : (j : Int) < (n : Int) := by omega
     have hj1 : (k : Int) - 1 = (j : Int) := by omega
     have hj2 : IntKind.i64.wrap (j : Int) = (j : Int) := IntWalk.i64_in _ (by omega)
     have e2 : decide (0 < k) = true := decide_eq_true (by omega)
     obtain ⟨y, hy⟩ : ∃ y, L.getD j acc0 = y := ⟨_, rfl⟩
     have hy4 := HCS.out j (by rw [HN.out]; omega)
     rw [hy] at hy4
     have HY4 := Lib.hid hy4
     have HY := Lib.hid hy
     have HJ := Lib.hid hj
     clear hy4 hy hj hk0
     rcases Int.lt_or_le y.code x.code with h8 | h8
     ·have HQ : Hid (rowB L g k = !q) := Lib.hid (by
       have h1 := HX.out
       rw [HJ.out] at h1 ⊢
       rw [rowB_up (by rw [h1]; exact HP.out) (by rw [h1, HY.out]; exact h8), h1]; exact HTQ.out)
      have e3 : decide (x.code ≤ y.code) = false := decide_eq_false (by omega)
      clear h8
      refine AS.region_facts (rvFd b off n k j cp g x y C cl q) (HNo wr) [[], [], [], [16, 17], [18], [], [15, 19, 20], [21], [22], [23], [24, 23], [25, 23], [26], [26], [27, 28, 26], [29, 26], [30, 26], [26], [26], [33, 26], [32, 34, 26], [35, 26], [36, 26], [31, 37, 26], [26, 38, 23], [23, 39], [40], [41], [41], [41], [43, 44, 41], [45, 41], [46, 41], [42, 47, 41], [48, 41], [41], [50, 41], [49, 51, 41], [41, 52]] [] [[]] [0, 0, 0, 0, 0, 0, 0, 0, 0, 0, 0, 0, 0, 0, 0, 0, 0, 0, 0, 0, 0, 0, 0, 0, 0, 0, 0, 0, 0, 0, 0, 0, 0, 0, 0, 0, 0, 0, 0] [] (fun u => by simp only [rvFd, AS.temps, List.map_cons, List.map_nil, fillL, List.setIfInBounds_toArray, List.set_cons_zero, List.set_cons_succ]; rfl) (by kernel_rfl) (by kernel_rfl) (HNo.st wr) (dc_drew (Below.refl _ _)) ?_ ?_
      ·refine AS.sc rfl rfl rfl ?_ ?_
       ·intro k_ u w_ hk_ hJ hF K hK
        clear hF
        go_simp
        exact hK.out _ _ (Below.refl _ _) (rfl) trivial
       refine AS.sc rfl rfl rfl ?_ ?_
       ·intro k_ u w_ hk_ hJ hF K hK
        clear hF
        go_simp
        exact hK.out _ _ (Below.refl _ _) (rfl) trivial
       refine AS.sc rfl rfl rfl ?_ ?_
       ·intro k_ u w_ hk_ hJ hF K hK
        clear hF
        go_simp
        exact hK.out _ _ (Below.refl _ _) (rfl) trivial
       refine AS.sc rfl rfl rfl ?_ ?_
       ·intro k_ u w_ hk_ hJ hF K hK
        have h16 : u 16 = .slice (some ⟨b, off, none⟩) (n : Nat) cp := AS.facts_get hF 16 (by simp)
        have h17 : u 17 = .int .i64 (k : Int) := AS.facts_get hF 17 (by simp)
        clear hF
        simp only [h16, h17] at hK ⊢
        clear h16 h17
        go_simp
        exact hK.out _ _ (Below.refl _ _) (rfl) trivial
       refine AS.sc rfl rfl rfl ?_ ?_
       ·intro k_ u w_ hk_ hJ hF K hK
        have h18 : u 18 = .pointer (some ⟨b, off + k * 4, none⟩) := AS.facts_get hF 18 (by simp)
        clear hF
        simp only [h18] at hK ⊢
        clear h18
        obtain ⟨c0, c1, c2, c3⟩ := HX4.out.up (hJ : Below wr.heap.size wr w_) hbW
        go_simp
        exact hK.out _ _ (Below.refl _ _) (rfl) trivial
       refine AS.sc rfl rfl rfl ?_ ?_
       ·intro k_ u w_ hk_ hJ hF K hK
        clear hF
        go_simp
        exact hK.out _ _ (Below.refl _ _) (rfl) trivial
       refine AS.sc rfl rfl rfl ?_ ?_
       ·intro k_ u w_ hk_ hJ hF K hK
        have h15 : u 15 = .slice (some ⟨b, off, none⟩) (n : Nat) cp := AS.facts_get hF 15 (by simp)
        have h19 : u 19 = accV x := AS.facts_get hF 19 (by simp)
        have h20 : u 20 = .bool g := AS.facts_get hF 20 (by simp)
        clear hF
        simp only [h15, h19, h20] at hK ⊢
        clear h15 h19 h20
        have hz9 := HZW.out.up (hJ : Below wr.heap.size wr w_)
        go_simp
        refine (HPr.out _ hz9).mono ?_
        rintro e w3 ⟨rfl, hb⟩
        exact hK.out _ _ hb (rfl) trivial
       refine AS.sc rfl rfl rfl ?_ ?_
       ·intro k_ u w_ hk_ hJ hF K hK
        have h21 : u 21 = .bool true := AS.facts_get hF 21 (by simp)
        clear hF
        simp only [h21] at hK ⊢
        clear h21
        go_simp
        exact hK.out _ _ (Below.refl _ _) (rfl) trivial
       refine AS.sc rfl rfl rfl ?_ ?_
       ·intro k_ u w_ hk_ hJ hF K hK
        have h22 : u 22 = .bool false := AS.facts_get hF 22 (by simp)
        clear hF
        simp only [h22] at hK ⊢
        clear h22
        go_simp
        exact hK.out _ _ (Below.refl _ _) (rfl) trivial
       refine AS.sc rfl rfl rfl ?_ ?_
       ·intro k_ u w_ hk_ hJ hF K hK
        have h23 : u 23 = .bool false := AS.facts_get hF 23 (by simp)
        clear hF
        simp only [h23] at hK ⊢
        clear h23
        go_simp
        exact hK.out _ _ (Below.refl _ _) (rfl) trivial
       refine AS.sc rfl rfl rfl ?_ ?_
       ·intro k_ u w_ hk_ hJ hF K hK
        have h24 : u 24 = .int .i64 (k : Int) := AS.facts_get hF 24 (by simp)
        have h23 : u 23 = .bool false := AS.facts_get hF 23 (by simp)
        clear hF
        simp only [h24, h23] at hK ⊢
        clear h24 h23
        go_simp
        exact hK.out _ _ (Below.refl _ _) (rfl) trivial
       refine AS.sc rfl rfl rfl ?_ ?_
       ·intro k_ u w_ hk_ hJ hF K hK
        have h25 : u 25 = .bool true := AS.facts_get hF 25 (by simp)
        have h23 : u 23 = .bool false := AS.facts_get hF 23 (by simp)
        clear hF
        simp only [h25, h23] at hK ⊢
        clear h25 h23
        go_simp
        exact hK.out _ _ (Below.refl _ _) (rfl) trivial
       refine AS.sc rfl rfl rfl ?_ ?_
       ·intro k_ u w_ hk_ hJ hF K hK
        have h26 : u 26 = .bool true := AS.facts_get hF 26 (by simp)
        clear hF
        simp only [h26] at hK ⊢
        clear h26
        go_simp
        exact hK.out _ _ (Below.refl _ _) (rfl) trivial
       refine AS.sc rfl rfl rfl ?_ ?_
       ·intro k_ u w_ hk_ hJ hF K hK
        have h26 : u 26 = .bool true := AS.facts_get hF 26 (by simp)
        clear hF
        simp only [h26] at hK ⊢
        clear h26
        go_simp
        exact hK.out _ _ (Below.refl _ _) (rfl) trivial
       refine AS.sc rfl rfl rfl ?_ ?_
       ·intro k_ u w_ hk_ hJ hF K hK
        have h27 : u 27 = .slice (some ⟨b, off, none⟩) (n : Nat) cp := AS.facts_get hF 27 (by simp)
        have h28 : u 28 = .int .i64 (k : Int) := AS.facts_get hF 28 (by simp)
        have h26 : u 26 = .bool true := AS.facts_get hF 26 (by simp)
        clear hF
        simp only [h27, h28, h26] at hK ⊢
        clear h27 h28 h26
        go_simp
        exact hK.out _ _ (Below.refl _ _) (rfl) trivial
       refine AS.sc rfl rfl rfl ?_ ?_
       ·intro k_ u w_ hk_ hJ hF K hK
        have h29 : u 29 = .pointer (some ⟨b, off + k * 4, none⟩) := AS.facts_get hF 29 (by simp)
        have h26 : u 26 = .bool true := AS.facts_get hF 26 (by simp)
        clear hF
        simp only [h29, h26] at hK ⊢
        clear h29 h26
        go_simp
        exact hK.out _ _ (Below.refl _ _) (rfl) trivial
       refine AS.sc rfl rfl rfl ?_ ?_
       ·intro k_ u w_ hk_ hJ hF K hK
        have h30 : u 30 = .pointer (some ⟨b, off + k * 4, none⟩) := AS.facts_get hF 30 (by simp)
        have h26 : u 26 = .bool true := AS.facts_get hF 26 (by simp)
        clear hF
        simp only [h30, h26] at hK ⊢
        clear h30 h26
        obtain ⟨c0, c1, c2, c3⟩ := HX4.out.up (hJ : Below wr.heap.size wr w_) hbW
        go_simp
        exact hK.out _ _ (Below.refl _ _) (rfl) trivial
       refine AS.sc rfl rfl rfl ?_ ?_
       ·intro k_ u w_ hk_ hJ hF K hK
        have h26 : u 26 = .bool true := AS.facts_get hF 26 (by simp)
        clear hF
        simp only [h26] at hK ⊢
        clear h26
        go_simp
        exact hK.out _ _ (Below.refl _ _) (rfl) trivial
       refine AS.sc rfl rfl rfl ?_ ?_
       ·intro k_ u w_ hk_ hJ hF K hK
        have h26 : u 26 = .bool true := AS.facts_get hF 26 (by simp)
        clear hF
        simp only [h26] at hK ⊢
        clear h26
        go_simp
        exact hK.out _ _ (Below.refl _ _) (rfl) trivial
       refine AS.sc rfl rfl rfl ?_ ?_
       ·intro k_ u w_ hk_ hJ hF K hK
        have h33 : u 33 = .int .i64 (k : Int) := AS.facts_get hF 33 (by simp)
        have h26 : u 26 = .bool true := AS.facts_get hF 26 (by simp)
        clear hF
        simp only [h33, h26] at hK ⊢
        clear h33 h26
        go_simp
        exact hK.out _ _ (Below.refl _ _) (rfl) trivial
       refine AS.sc rfl rfl rfl ?_ ?_
       ·intro k_ u w_ hk_ hJ hF K hK
        have h32 : u 32 = .slice (some ⟨b, off, none⟩) (n : Nat) cp := AS.facts_get hF 32 (by simp)
        have h34 : u 34 = .int .i64 (j : Int) := AS.facts_get hF 34 (by simp)
        have h26 : u 26 = .bool true := AS.facts_get hF 26 (by simp)
        clear hF
        simp only [h32, h34, h26] at hK ⊢
        clear h32 h34 h26
        go_simp
        exact hK.out _ _ (Below.refl _ _) (rfl) trivial
       refine AS.sc rfl rfl rfl ?_ ?_
       ·intro k_ u w_ hk_ hJ hF K hK
        have h35 : u 35 = .pointer (some ⟨b, off + j * 4, none⟩) := AS.facts_get hF 35 (by simp)
        have h26 : u 26 = .bool true := AS.facts_get hF 26 (by simp)
        clear hF
        simp only [h35, h26] at hK ⊢
        clear h35 h26
        go_simp
        exact hK.out _ _ (Below.refl _ _) (rfl) trivial
       refine AS.sc rfl rfl rfl ?_ ?_
       ·intro k_ u w_ hk_ hJ hF K hK
        have h36 : u 36 = .pointer (some ⟨b, off + j * 4, none⟩) := AS.facts_get hF 36 (by simp)
        have h26 : u 26 = .bool true := AS.facts_get hF 26 (by simp)
        clear hF
        simp only [h36, h26] at hK ⊢
        clear h36 h26
        obtain ⟨c0, c1, c2, c3⟩ := HY4.out.up (hJ : Below wr.heap.size wr w_) hbW
        go_simp
        exact hK.out _ _ (Below.refl _ _) (rfl) trivial
       refine AS.sc rfl rfl rfl ?_ ?_
       ·intro k_ u w_ hk_ hJ hF K hK
        have h31 : u 31 = .int .i64 x.code := AS.facts_get hF 31 (by simp)
        have h37 : u 37 = .int .i64 y.code := AS.facts_get hF 37 (by simp)
        have h26 : u 26 = .bool true := AS.facts_get hF 26 (by simp)
        clear hF
        simp only [h31, h37, h26] at hK ⊢
        clear h31 h37 h26
        go_simp
        exact hK.out _ _ (Below.refl _ _) (rfl) trivial
       refine AS.sc rfl rfl rfl ?_ ?_
       ·intro k_ u w_ hk_ hJ hF K hK
        have h26 : u 26 = .bool true := AS.facts_get hF 26 (by simp)
        have h38 : u 38 = .bool false := AS.facts_get hF 38 (by simp)
        have h23 : u 23 = .bool false := AS.facts_get hF 23 (by simp)
        clear hF
        simp only [h26, h38, h23] at hK ⊢
        clear h26 h38 h23
        go_simp
        exact hK.out _ _ (Below.refl _ _) (rfl) trivial
       refine AS.sc rfl rfl rfl ?_ ?_
       ·intro k_ u w_ hk_ hJ hF K hK
        have h23 : u 23 = .bool false := AS.facts_get hF 23 (by simp)
        have h39 : u 39 = .bool false := AS.facts_get hF 39 (by simp)
        clear hF
        simp only [h23, h39] at hK ⊢
        clear h23 h39
        go_simp
        exact hK.out _ _ (Below.refl _ _) (rfl) trivial
       refine AS.sc rfl rfl rfl ?_ ?_
       ·intro k_ u w_ hk_ hJ hF K hK
        have h40 : u 40 = .bool false := AS.facts_get hF 40 (by simp)
        clear hF
        simp only [h40] at hK ⊢
        clear h40
        go_simp
        exact hK.out _ _ (Below.refl _ _) (rfl) trivial
       refine AS.sc rfl rfl rfl ?_ ?_
       ·intro k_ u w_ hk_ hJ hF K hK
        have h41 : u 41 = .bool false := AS.facts_get hF 41 (by simp)
        clear hF
        simp only [h41] at hK ⊢
        clear h41
        go_simp
        exact hK.out _ _ (Below.refl _ _) (rfl) trivial
       refine AS.sc rfl rfl rfl ?_ ?_
       ·intro k_ u w_ hk_ hJ hF K hK
        have h41 : u 41 = .bool false := AS.facts_get hF 41 (by simp)
        clear hF
        simp only [h41] at hK ⊢
        clear h41
        go_simp
        exact hK.out _ _ (Below.refl _ _) (rfl) trivial
       refine AS.sc rfl rfl rfl ?_ ?_
       ·intro k_ u w_ hk_ hJ hF K hK
        have h41 : u 41 = .bool false := AS.facts_get hF 41 (by simp)
        clear hF
        simp only [h41] at hK ⊢
        clear h41
        go_simp
        exact hK.out _ _ (Below.refl _ _) (rfl) trivial
       refine AS.sc rfl rfl rfl ?_ ?_
       ·intro k_ u w_ hk_ hJ hF K hK
        have h43 : u 43 = .slice (some ⟨b, off, none⟩) (n : Nat) cp := AS.facts_get hF 43 (by simp)
        have h44 : u 44 = .int .i64 (k : Int) := AS.facts_get hF 44 (by simp)
        have h41 : u 41 = .bool false := AS.facts_get hF 41 (by simp)
        clear hF
        simp only [h43, h44, h41] at hK ⊢
        clear h43 h44 h41
        go_simp
        exact hK.out _ _ (Below.refl _ _) (rfl) trivial
       refine AS.sc rfl rfl rfl ?_ ?_
       ·intro k_ u w_ hk_ hJ hF K hK
        have h45 : u 45 = .pointer (some ⟨b, off + k * 4, none⟩) := AS.facts_get hF 45 (by simp)
        have h41 : u 41 = .bool false := AS.facts_get hF 41 (by simp)
        clear hF
        simp only [h45, h41] at hK ⊢
        clear h45 h41
        go_simp
        exact hK.out _ _ (Below.refl _ _) (rfl) trivial
       refine AS.sc rfl rfl rfl ?_ ?_
       ·intro k_ u w_ hk_ hJ hF K hK
        have h46 : u 46 = .pointer (some ⟨b, off + k * 4, none⟩) := AS.facts_get hF 46 (by simp)
        have h41 : u 41 = .bool false := AS.facts_get hF 41 (by simp)
        clear hF
        simp only [h46, h41] at hK ⊢
        clear h46 h41
        obtain ⟨c0, c1, c2, c3⟩ := HX4.out.up (hJ : Below wr.heap.size wr w_) hbW
        go_simp
        exact hK.out _ _ (Below.refl _ _) (rfl) trivial
       refine AS.sc rfl rfl rfl ?_ ?_
       ·intro k_ u w_ hk_ hJ hF K hK
        have h42 : u 42 = .slice (some ⟨b, off, none⟩) (n : Nat) cp := AS.facts_get hF 42 (by simp)
        have h47 : u 47 = .int .i64 x.code := AS.facts_get hF 47 (by simp)
        have h41 : u 41 = .bool false := AS.facts_get hF 41 (by simp)
        clear hF
        simp only [h42, h47, h41] at hK ⊢
        clear h42 h47 h41
        have hz9 := HZW.out.up (hJ : Below wr.heap.size wr w_)
        go_simp
        refine (HCb.out _ hz9).mono ?_
        rintro e w3 ⟨v, rfl, h9, hb⟩
        exact hK.out _ _ hb h9 trivial
       refine AS.sc rfl rfl rfl ?_ ?_
       ·intro k_ u w_ hk_ hJ hF K hK
        have h48 : SlI w_ (u 48) C := AS.facts_get hF 48 (by simp)
        have h41 : u 41 = .bool false := AS.facts_get hF 41 (by simp)
        clear hF
        obtain ⟨A8, d8, h48, -⟩ := h48
        rw [HCL.out] at h48
        simp only [h48, h41] at hK ⊢
        clear h48 h41
        go_simp
        exact hK.out _ _ (Below.refl _ _) (rfl) trivial
       refine AS.sc rfl rfl rfl ?_ ?_
       ·intro k_ u w_ hk_ hJ hF K hK
        have h41 : u 41 = .bool false := AS.facts_get hF 41 (by simp)
        clear hF
        simp only [h41] at hK ⊢
        clear h41
        go_simp
        exact hK.out _ _ (Below.refl _ _) (rfl) trivial
       refine AS.sc rfl rfl rfl ?_ ?_
       ·intro k_ u w_ hk_ hJ hF K hK
        have h50 : u 50 = .slice (some ⟨b, off, none⟩) (n : Nat) cp := AS.facts_get hF 50 (by simp)
        have h41 : u 41 = .bool false := AS.facts_get hF 41 (by simp)
        clear hF
        simp only [h50, h41] at hK ⊢
        clear h50 h41
        go_simp
        exact hK.out _ _ (Below.refl _ _) (rfl) trivial
       refine AS.sc rfl rfl rfl ?_ ?_
       ·intro k_ u w_ hk_ hJ hF K hK
        have h49 : u 49 = .int .i64 (cl : Int) := AS.facts_get hF 49 (by simp)
        have h51 : u 51 = .int .i64 (n : Int) := AS.facts_get hF 51 (by simp)
        have h41 : u 41 = .bool false := AS.facts_get hF 41 (by simp)
        clear hF
        simp only [h49, h51, h41] at hK ⊢
        clear h49 h51 h41
        go_simp
        exact hK.out _ _ (Below.refl _ _) (rfl) trivial
       refine AS.sc rfl rfl rfl ?_ ?_
       ·intro k_ u w_ hk_ hJ hF K hK
        have h41 : u 41 = .bool false := AS.facts_get hF 41 (by simp)
        have h52 : u 52 = .bool q := AS.facts_get hF 52 (by simp)
        clear hF
        simp only [h41, h52] at hK ⊢
        clear h41 h52
        go_simp
        exact hK.out _ _ (Below.refl _ _) (rfl) trivial
       exact AS.StepsOk.nil
      ·intro u W9 hJ9 hF
       have h53 : u 53 = .bool q := AS.facts_get hF 53 (by simp [rvFd, AS.temps])
       have hB9 : Below wr.heap.size wr W9 := hJ9
       clear hF hJ9
       simp only [h53]
       clear h53
       cases q
       ·have HR2 : Hid (rowsTo L g (k + 1) = true) := Lib.hid (by rw [rowsTo, HR.out, HQ.out]; rfl)
        go_wp2_with fail
        go_roundg (n - (k + 1))
        case measure => omega
        case rel => exact ⟨k + 1, by go_num, by omega, by omega, HR2, hB.trans (hB9.mono hB.size)⟩
       ·have E : Hid (rvB L g = false) := Lib.hid (rvB_no (k := k) (by rw [HN.out]; exact hlt) HQ.out)
        go_wp2_with fail
        go_ret
        exact ⟨by rw [E.out]; rfl, hB.trans (hB9.mono hB.size)⟩
     ·have E : Hid (rvB L g = false) := Lib.hid (rvB_no (k := k) (by rw [HN.out]; exact hlt) (by
       have h1 := HX.out
       rw [HJ.out] at h1 ⊢
       exact rowB_down (by rw [h1, HY.out]; exact h8)))
      have e3 : decide (x.code ≤ y.code) = true := decide_eq_true h8
      clear h8 hq
      refine AS.region_facts (rvFc b off n k j cp g x y) (HNo wr) [[], [], [], [16, 17], [18], [], [15, 19, 20], [21], [22], [23], [24, 23], [25, 23], [26], [26], [27, 28, 26], [29, 26], [30, 26], [26], [26], [33, 26], [32, 34, 26], [35, 26], [36, 26], [31, 37, 26], [26, 38, 23], [23, 39], [40], [41], [41], [41], [41], [41], [41], [41], [41], [41], [41], [41], [41, 52]] [] [[]] [0, 0, 0, 0, 0, 0, 0, 0, 0, 0, 0, 0, 0, 0, 0, 0, 0, 0, 0, 0, 0, 0, 0, 0, 0, 0, 0, 0, 0, 0, 0, 0, 0, 0, 0, 0, 0, 0, 0] [] (fun u => by simp only [rvFc, AS.temps, List.map_cons, List.map_nil, fillL, List.setIfInBounds_toArray, List.set_cons_zero, List.set_cons_succ]; rfl) (by kernel_rfl) (by kernel_rfl) (HNo.st wr) (dc_drew (Below.refl _ _)) ?_ ?_
      ·refine AS.sc rfl rfl rfl ?_ ?_
       ·intro k_ u w_ hk_ hJ hF K hK
        clear hF
        go_simp
        exact hK.out _ _ (Below.refl _ _) (rfl) trivial
       refine AS.sc rfl rfl rfl ?_ ?_
       ·intro k_ u w_ hk_ hJ hF K hK
        clear hF
        go_simp
        exact hK.out _ _ (Below.refl _ _) (rfl) trivial
       refine AS.sc rfl rfl rfl ?_ ?_
       ·intro k_ u w_ hk_ hJ hF K hK
        clear hF
        go_simp
        exact hK.out _ _ (Below.refl _ _) (rfl) trivial
       refine AS.sc rfl rfl rfl ?_ ?_
       ·intro k_ u w_ hk_ hJ hF K hK
        have h16 : u 16 = .slice (some ⟨b, off, none⟩) (n : Nat) cp := AS.facts_get hF 16 (by simp)
        have h17 : u 17 = .int .i64 (k : Int) := AS.facts_get hF 17 (by simp)
        clear hF
        simp only [h16, h17] at hK ⊢
        clear h16 h17
        go_simp
        exact hK.out _ _ (Below.refl _ _) (rfl) trivial
       refine AS.sc rfl rfl rfl ?_ ?_
       ·intro k_ u w_ hk_ hJ hF K hK
        have h18 : u 18 = .pointer (some ⟨b, off + k * 4, none⟩) := AS.facts_get hF 18 (by simp)
        clear hF
        simp only [h18] at hK ⊢
        clear h18
        obtain ⟨c0, c1, c2, c3⟩ := HX4.out.up (hJ : Below wr.heap.size wr w_) hbW
        go_simp
        exact hK.out _ _ (Below.refl _ _) (rfl) trivial
       refine AS.sc rfl rfl rfl ?_ ?_
       ·intro k_ u w_ hk_ hJ hF K hK
        clear hF
        go_simp
        exact hK.out _ _ (Below.refl _ _) (rfl) trivial
       refine AS.sc rfl rfl rfl ?_ ?_
       ·intro k_ u w_ hk_ hJ hF K hK
        have h15 : u 15 = .slice (some ⟨b, off, none⟩) (n : Nat) cp := AS.facts_get hF 15 (by simp)
        have h19 : u 19 = accV x := AS.facts_get hF 19 (by simp)
        have h20 : u 20 = .bool g := AS.facts_get hF 20 (by simp)
        clear hF
        simp only [h15, h19, h20] at hK ⊢
        clear h15 h19 h20
        have hz9 := HZW.out.up (hJ : Below wr.heap.size wr w_)
        go_simp
        refine (HPr.out _ hz9).mono ?_
        rintro e w3 ⟨rfl, hb⟩
        exact hK.out _ _ hb (rfl) trivial
       refine AS.sc rfl rfl rfl ?_ ?_
       ·intro k_ u w_ hk_ hJ hF K hK
        have h21 : u 21 = .bool true := AS.facts_get hF 21 (by simp)
        clear hF
        simp only [h21] at hK ⊢
        clear h21
        go_simp
        exact hK.out _ _ (Below.refl _ _) (rfl) trivial
       refine AS.sc rfl rfl rfl ?_ ?_
       ·intro k_ u w_ hk_ hJ hF K hK
        have h22 : u 22 = .bool false := AS.facts_get hF 22 (by simp)
        clear hF
        simp only [h22] at hK ⊢
        clear h22
        go_simp
        exact hK.out _ _ (Below.refl _ _) (rfl) trivial
       refine AS.sc rfl rfl rfl ?_ ?_
       ·intro k_ u w_ hk_ hJ hF K hK
        have h23 : u 23 = .bool false := AS.facts_get hF 23 (by simp)
        clear hF
        simp only [h23] at hK ⊢
        clear h23
        go_simp
        exact hK.out _ _ (Below.refl _ _) (rfl) trivial
       refine AS.sc rfl rfl rfl ?_ ?_
       ·intro k_ u w_ hk_ hJ hF K hK
        have h24 : u 24 = .int .i64 (k : Int) := AS.facts_get hF 24 (by simp)
        have h23 : u 23 = .bool false := AS.facts_get hF 23 (by simp)
        clear hF
        simp only [h24, h23] at hK ⊢
        clear h24 h23
        go_simp
        exact hK.out _ _ (Below.refl _ _) (rfl) trivial
       refine AS.sc rfl rfl rfl ?_ ?_
       ·intro k_ u w_ hk_ hJ hF K hK
        have h25 : u 25 = .bool true := AS.facts_get hF 25 (by simp)
        have h23 : u 23 = .bool false := AS.facts_get hF 23 (by simp)
        clear hF
        simp only [h25, h23] at hK ⊢
        clear h25 h23
        go_simp
        exact hK.out _ _ (Below.refl _ _) (rfl) trivial
       refine AS.sc rfl rfl rfl ?_ ?_
       ·intro k_ u w_ hk_ hJ hF K hK
        have h26 : u 26 = .bool true := AS.facts_get hF 26 (by simp)
        clear hF
        simp only [h26] at hK ⊢
        clear h26
        go_simp
        exact hK.out _ _ (Below.refl _ _) (rfl) trivial
       refine AS.sc rfl rfl rfl ?_ ?_
       ·intro k_ u w_ hk_ hJ hF K hK
        have h26 : u 26 = .bool true := AS.facts_get hF 26 (by simp)
        clear hF
        simp only [h26] at hK ⊢
        clear h26
        go_simp
        exact hK.out _ _ (Below.refl _ _) (rfl) trivial
       refine AS.sc rfl rfl rfl ?_ ?_
       ·intro k_ u w_ hk_ hJ hF K hK
        have h27 : u 27 = .slice (some ⟨b, off, none⟩) (n : Nat) cp := AS.facts_get hF 27 (by simp)
        have h28 : u 28 = .int .i64 (k : Int) := AS.facts_get hF 28 (by simp)
        have h26 : u 26 = .bool true := AS.facts_get hF 26 (by simp)
        clear hF
        simp only [h27, h28, h26] at hK ⊢
        clear h27 h28 h26
        go_simp
        exact hK.out _ _ (Below.refl _ _) (rfl) trivial
       refine AS.sc rfl rfl rfl ?_ ?_
       ·intro k_ u w_ hk_ hJ hF K hK
        have h29 : u 29 = .pointer (some ⟨b, off + k * 4, none⟩) := AS.facts_get hF 29 (by simp)
        have h26 : u 26 = .bool true := AS.facts_get hF 26 (by simp)
        clear hF
        simp only [h29, h26] at hK ⊢
        clear h29 h26
        go_simp
        exact hK.out _ _ (Below.refl _ _) (rfl) trivial
       refine AS.sc rfl rfl rfl ?_ ?_
       ·intro k_ u w_ hk_ hJ hF K hK
        have h30 : u 30 = .pointer (some ⟨b, off + k * 4, none⟩) := AS.facts_get hF 30 (by simp)
        have h26 : u 26 = .bool true := AS.facts_get hF 26 (by simp)
        clear hF
        simp only [h30, h26] at hK ⊢
        clear h30 h26
        obtain ⟨c0, c1, c2, c3⟩ := HX4.out.up (hJ : Below wr.heap.size wr w_) hbW
        go_simp
        exact hK.out _ _ (Below.refl _ _) (rfl) trivial
       refine AS.sc rfl rfl rfl ?_ ?_
       ·intro k_ u w_ hk_ hJ hF K hK
        have h26 : u 26 = .bool true := AS.facts_get hF 26 (by simp)
        clear hF
        simp only [h26] at hK ⊢
        clear h26
        go_simp
        exact hK.out _ _ (Below.refl _ _) (rfl) trivial
       refine AS.sc rfl rfl rfl ?_ ?_
       ·intro k_ u w_ hk_ hJ hF K hK
        have h26 : u 26 = .bool true := AS.facts_get hF 26 (by simp)
        clear hF
        simp only [h26] at hK ⊢
        clear h26
        go_simp
        exact hK.out _ _ (Below.refl _ _) (rfl) trivial
       refine AS.sc rfl rfl rfl ?_ ?_
       ·intro k_ u w_ hk_ hJ hF K hK
        have h33 : u 33 = .int .i64 (k : Int) := AS.facts_get hF 33 (by simp)
        have h26 : u 26 = .bool true := AS.facts_get hF 26 (by simp)
        clear hF
        simp only [h33, h26] at hK ⊢
        clear h33 h26
        go_simp
        exact hK.out _ _ (Below.refl _ _) (rfl) trivial
       refine AS.sc rfl rfl rfl ?_ ?_
       ·intro k_ u w_ hk_ hJ hF K hK
        have h32 : u 32 = .slice (some ⟨b, off, none⟩) (n : Nat) cp := AS.facts_get hF 32 (by simp)
        have h34 : u 34 = .int .i64 (j : Int) := AS.facts_get hF 34 (by simp)
        have h26 : u 26 = .bool true := AS.facts_get hF 26 (by simp)
        clear hF
        simp only [h32, h34, h26] at hK ⊢
        clear h32 h34 h26
        go_simp
        exact hK.out _ _ (Below.refl _ _) (rfl) trivial
       refine AS.sc rfl rfl rfl ?_ ?_
       ·intro k_ u w_ hk_ hJ hF K hK
        have h35 : u 35 = .pointer (some ⟨b, off + j * 4, none⟩) := AS.facts_get hF 35 (by simp)
        have h26 : u 26 = .bool true := AS.facts_get hF 26 (by simp)
        clear hF
        simp only [h35, h26] at hK ⊢
        clear h35 h26
        go_simp
        exact hK.out _ _ (Below.refl _ _) (rfl) trivial
       refine AS.sc rfl rfl rfl ?_ ?_
       ·intro k_ u w_ hk_ hJ hF K hK
        have h36 : u 36 = .pointer (some ⟨b, off + j * 4, none⟩) := AS.facts_get hF 36 (by simp)
        have h26 : u 26 = .bool true := AS.facts_get hF 26 (by simp)
        clear hF
        simp only [h36, h26] at hK ⊢
        clear h36 h26
        obtain ⟨c0, c1, c2, c3⟩ := HY4.out.up (hJ : Below wr.heap.size wr w_) hbW
        go_simp
        exact hK.out _ _ (Below.refl _ _) (rfl) trivial
       refine AS.sc rfl rfl rfl ?_ ?_
       ·intro k_ u w_ hk_ hJ hF K hK
        have h31 : u 31 = .int .i64 x.code := AS.facts_get hF 31 (by simp)
        have h37 : u 37 = .int .i64 y.code := AS.facts_get hF 37 (by simp)
        have h26 : u 26 = .bool true := AS.facts_get hF 26 (by simp)
        clear hF
        simp only [h31, h37, h26] at hK ⊢
        clear h31 h37 h26
        go_simp
        exact hK.out _ _ (Below.refl _ _) (rfl) trivial
       refine AS.sc rfl rfl rfl ?_ ?_
       ·intro k_ u w_ hk_ hJ hF K hK
        have h26 : u 26 = .bool true := AS.facts_get hF 26 (by simp)
        have h38 : u 38 = .bool true := AS.facts_get hF 38 (by simp)
        have h23 : u 23 = .bool false := AS.facts_get hF 23 (by simp)
        clear hF
        simp only [h26, h38, h23] at hK ⊢
        clear h26 h38 h23
        go_simp
        exact hK.out _ _ (Below.refl _ _) (rfl) trivial
       refine AS.sc rfl rfl rfl ?_ ?_
       ·intro k_ u w_ hk_ hJ hF K hK
        have h23 : u 23 = .bool false := AS.facts_get hF 23 (by simp)
        have h39 : u 39 = .bool true := AS.facts_get hF 39 (by simp)
        clear hF
        simp only [h23, h39] at hK ⊢
        clear h23 h39
        go_simp
        exact hK.out _ _ (Below.refl _ _) (rfl) trivial
       refine AS.sc rfl rfl rfl ?_ ?_
       ·intro k_ u w_ hk_ hJ hF K hK
        have h40 : u 40 = .bool true := AS.facts_get hF 40 (by simp)
        clear hF
        simp only [h40] at hK ⊢
        clear h40
        go_simp
        exact hK.out _ _ (Below.refl _ _) (rfl) trivial
       refine AS.sc rfl rfl rfl ?_ ?_
       ·intro k_ u w_ hk_ hJ hF K hK
        have h41 : u 41 = .bool true := AS.facts_get hF 41 (by simp)
        clear hF
        simp only [h41] at hK ⊢
        clear h41
        go_simp
        exact hK.out _ _ (Below.refl _ _) (rfl) trivial
       refine AS.sc rfl rfl rfl ?_ ?_
       ·intro k_ u w_ hk_ hJ hF K hK
        have h41 : u 41 = .bool true := AS.facts_get hF 41 (by simp)
        clear hF
        simp only [h41] at hK ⊢
        clear h41
        go_simp
        exact hK.out _ _ (Below.refl _ _) (rfl) trivial
       refine AS.sc rfl rfl rfl ?_ ?_
       ·intro k_ u w_ hk_ hJ hF K hK
        have h41 : u 41 = .bool true := AS.facts_get hF 41 (by simp)
        clear hF
        simp only [h41] at hK ⊢
        clear h41
        go_simp
        exact hK.out _ _ (Below.refl _ _) (rfl) trivial
       refine AS.sc rfl rfl rfl ?_ ?_
       ·intro k_ u w_ hk_ hJ hF K hK
        have h41 : u 41 = .bool true := AS.facts_get hF 41 (by simp)
        clear hF
        simp only [h41] at hK ⊢
        clear h41
        go_simp
        exact hK.out _ _ (Below.refl _ _) (rfl) trivial
       refine AS.sc rfl rfl rfl ?_ ?_
       ·intro k_ u w_ hk_ hJ hF K hK
        have h41 : u 41 = .bool true := AS.facts_get hF 41 (by simp)
        clear hF
        simp only [h41] at hK ⊢
        clear h41
        go_simp
        exact hK.out _ _ (Below.refl _ _) (rfl) trivial
       refine AS.sc rfl rfl rfl ?_ ?_
       ·intro k_ u w_ hk_ hJ hF K hK
        have h41 : u 41 = .bool true := AS.facts_get hF 41 (by simp)
        clear hF
        simp only [h41] at hK ⊢
        clear h41
        go_simp
        exact hK.out _ _ (Below.refl _ _) (rfl) trivial
       refine AS.sc rfl rfl rfl ?_ ?_
       ·intro k_ u w_ hk_ hJ hF K hK
        have h41 : u 41 = .bool true := AS.facts_get hF 41 (by simp)
        clear hF
        simp only [h41] at hK ⊢
        clear h41
        go_simp
        exact hK.out _ _ (Below.refl _ _) (rfl) trivial
       refine AS.sc rfl rfl rfl ?_ ?_
       ·intro k_ u w_ hk_ hJ hF K hK
        have h41 : u 41 = .bool true := AS.facts_get hF 41 (by simp)
        clear hF
        simp only [h41] at hK ⊢
        clear h41
        go_simp
        exact hK.out _ _ (Below.refl _ _) (rfl) trivial
       refine AS.sc rfl rfl rfl ?_ ?_
       ·intro k_ u w_ hk_ hJ hF K hK
        have h41 : u 41 = .bool true := AS.facts_get hF 41 (by simp)
        clear hF
        simp only [h41] at hK ⊢
        clear h41
        go_simp
        exact hK.out _ _ (Below.refl _ _) (rfl) trivial
       refine AS.sc rfl rfl rfl ?_ ?_
       ·intro k_ u w_ hk_ hJ hF K hK
        have h41 : u 41 = .bool true := AS.facts_get hF 41 (by simp)
        clear hF
        simp only [h41] at hK ⊢
        clear h41
        go_simp
        exact hK.out _ _ (Below.refl _ _) (rfl) trivial
       refine AS.sc rfl rfl rfl ?_ ?_
       ·intro k_ u w_ hk_ hJ hF K hK
        have h41 : u 41 = .bool true := AS.facts_get hF 41 (by simp)
        clear hF
        simp only [h41] at hK ⊢
        clear h41
        go_simp
        exact hK.out _ _ (Below.refl _ _) (rfl) trivial
       refine AS.sc rfl rfl rfl ?_ ?_
       ·intro k_ u w_ hk_ hJ hF K hK
        have h41 : u 41 = .bool true := AS.facts_get hF 41 (by simp)
        have h52 : u 52 = undef := AS.facts_get hF 52 (by simp)
        clear hF
        simp only [h41, h52] at hK ⊢
        clear h41 h52
        go_simp
        exact hK.out _ _ (Below.refl _ _) (rfl) trivial
       exact AS.StepsOk.nil
      ·intro u W9 hJ9 hF
       have h53 : u 53 = .bool true := AS.facts_get hF 53 (by simp [rvFc, AS.temps])
       have hB9 : Below wr.heap.size wr W9 := hJ9
       clear hF hJ9
       simp only [h53]
       clear h53
       go_wp2_with fail
       go_ret
       exact ⟨by rw [E.out]; rfl, hB.trans (hB9.mono hB.size)⟩
  ·obtain rfl : k = n := by omega
   have hltz : ¬ (k : Int) < (k : Int) := by omega
   have E : Hid (rvB L g = true) := Lib.hid (by rw [HV.out]; exact HR.out)
   go_wp2_with fail
   go_ret
   exact ⟨by rw [E.out]; rfl, hB⟩
def allTo (p : Nat → Bool) : Nat → Bool
 | 0 => true
 | k + 1 => allTo p k && p k
theorem allTo_is {p : Nat → Bool} : ∀ {k : Nat}, allTo p k = true ↔ ∀ i, i < k → p i = true
 | 0 => ⟨fun _ i hi => by omega, fun _ => rfl⟩
 | k + 1 => by
  rw [allTo, Bool.and_eq_true, allTo_is]
  constructor
  ·rintro ⟨h1, h2⟩ i hi
   rcases Nat.lt_or_ge i k with h3 | h3
   ·exact h1 i h3
   ·obtain rfl : i = k := by omega
    exact h2
  ·intro h; exact ⟨fun i hi => h i (by omega), h k (by omega)⟩
theorem allTo_no {p : Nat → Bool} {k n : Nat} (hk : k < n) (h : p k = false) : allTo p n = false := by
 cases h1 : allTo p n with
 | false => rfl
 | true => rw [allTo_is.1 h1 k hk] at h; cases h
def lnkB (L c : List Acc) (l : Lnk) : Bool := (fnd L l.frm).isSome && ((fnd c l.tgt).isSome && (decide ((fndA L l.frm).kind = (fndA c l.tgt).kind) && vdB l.since))
def smB (K : List Lnk) (i k : Nat) : Bool := decide ((K.getD k lnk0).frm = (K.getD i lnk0).frm) && decide ((K.getD k lnk0).since = (K.getD i lnk0).since)
def dfB (K : List Lnk) (i : Nat) : Bool := allTo (fun k => !smB K i k) i
def mvB (L : List Acc) (K : List Lnk) (c : List Acc) : Bool := vB c true && (vB L false && (decide (K.length ≤ 400) && (allTo (fun i => lnkB L c (K.getD i lnk0)) K.length && allTo (dfB K) K.length)))
open Go.RowKit Go.Maps
abbrev heldE : Value → Option (DataW Value × List MemPlace) := fun v => some (.held v, [])
section
variable {w w' : World} {b n m : Nat} {f : Int → Option Value}
end
theorem ts_keyed : Keyed Tryz.prog 233 := Keyed.of_law (deep_law_gate laid_out (by decide +kernel) (by decide +kernel) (by kernel_rfl) (by kernel_rfl))
theorem start_key {a b : Int} (ha : (Lit.int .i64 a).wf = true) (hb : (Lit.int .i64 b).wf = true) : ∃ l, keyOf Tryz.prog 233 (.agg #[.int .i64 a, .int .i64 b]) = some l := by
 have key : ∀ d, Tryz.prog.keyLits (d + 2) 233 [.int .i64 a, .int .i64 b] = some [.int .i64 a, .int .i64 b] := by
  intro d
  have hc : Tryz.prog.cellsOf 233 = 2 := by kernel_rfl
  have hc3 : Tryz.prog.cellsOf 3 = 1 := by kernel_rfl
  simp [Program.keyLits, Tryz.underlying233, Tryz.underlying3, hc, hc3, ha, hb]
 have hf : Value.formed Tryz.prog 233 (.agg #[.int .i64 a, .int .i64 b]) = true := by
  have hc : Tryz.prog.cellsOf 233 = 2 := by kernel_rfl
  simp [Value.formed, Tryz.underlying233, hc]
 have hk : Tryz.prog.keyType 233 = true := by kernel_rfl
 have h1 : 1 ≤ Tryz.prog.types.size := by decide +kernel
 obtain ⟨n, hn⟩ : ∃ n, Tryz.prog.types.size + 1 = n + 2 := ⟨Tryz.prog.types.size - 1, by omega⟩
 refine ⟨.string (keyBytes [.int .i64 a, .int .i64 b]), ?_⟩
 unfold keyOf
 rw [Tryz.underlying233]
 simp only [hk, hf, Bool.and_self, if_true]
 rw [hn]
 show Option.map _ (Tryz.prog.keyLits (n + 2) 233 [.int .i64 a, .int .i64 b]) = _
 rw [key n]; rfl
def SetP (w : World) (b m : Nat) (S : Int → Int → Bool) : Prop := ∃ D : DataW Value, w.ownsMap Tryz.prog 233 heldE b m D ∧ Maps.size D = m ∧ ∀ x y l, keyOf Tryz.prog 233 (.agg #[.int .i64 x, .int .i64 y]) = some l → Maps.has D l = S x y
theorem SetP.lt {w : World} {b m : Nat} {S : Int → Int → Bool} (h : SetP w b m S) : b < w.heap.size := by
 obtain ⟨D, h1, _⟩ := h
 exact h1.lt
theorem SetP.blk {w w' : World} {b m : Nat} {S : Int → Int → Bool} (h : SetP w b m S) (hk : w'.heap[b]? = w.heap[b]?) : SetP w' b m S := by
 obtain ⟨D, ⟨es, clock, hb, rest⟩, h2⟩ := h
 exact ⟨D, ⟨es, clock, hk.trans hb, rest⟩, h2⟩
theorem SetP.up {w w' : World} {b m : Nat} {S : Int → Int → Bool} (h : SetP w b m S) (hb : Below w.heap.size w w') : SetP w' b m S := h.blk (hb.block b h.lt)
theorem SetP.made (w : World) : SetP (w.alloc (.map #[] 0)) w.heap.size 0 (fun _ _ => false) :=
 ⟨.map [], World.ownsMap_made _ _ _ _, rfl, fun _ _ _ _ => rfl⟩
theorem wpList_setp_put {w : World} {ops : Array Oper} {rest : List Oper} {o : Oper} {a : Act} {Q : Exit → Act → World → Prop} (hg : o.guard = none) (m x y : Operand) (t e : TypeId) (hop : o.op = Op.mapUpdate t m x y)
  (ht : Tryz.prog.underlying t = some (.map 233 e))
  (b n : Nat) (S : Int → Int → Bool) (hm : a.eval m = .map (some b)) (hs : SetP w b n S) (c d : Int) (hx : a.eval x = .agg #[.int .i64 c, .int .i64 d]) (v : Value) (hy : a.eval y = v) (hw : (Lit.int .i64 c).wf = true) (hw2 : (Lit.int .i64 d).wf = true) (hn : n ≤ 1000000)
  (hK : ∀ w', Hid (SetP w' b (if S c d = true then n else n + 1) (fun x y => decide (x = c ∧ y = d) || S x y)) → Hid (w.grownBy w' (some b)) → wpList Tryz.prog ops Q rest (a.put o.dst undef) w') : wpList Tryz.prog ops Q (o :: rest) a w := by
 obtain ⟨D, h1, hsz, h3⟩ := hs
 have h2 := h1.isMap
 have ht2 := h1.tidy ts_keyed
 obtain ⟨l, hl⟩ := start_key hw hw2
 refine wpList_mapUpdate_own w hg m x y t hop 233 e ts_keyed ht heldE b n D hm h1 (by unfold maxLen; omega) _ _ _ hx hy hl (.held v) [] rfl ?_
 intro w' h4 h5
 have hsz2 : Maps.size (D.put l (.held v)) = if S c d = true then n else n + 1 := by
  rw [size_put ht2, h3 c d l hl, hsz]
 refine hK w' (Lib.hid ⟨_, ?_, hsz2, fun x y l2 hl2 => ?_⟩) (Lib.hid h5)
 ·obtain ⟨es, clock, hb, F, hes, hD⟩ := h4
  refine ⟨es, clock, hb, F, ?_, hD⟩
  have : es.size = Maps.size (D.put l (.held v)) := by rw [hD, size_eq, length_sorted]; simp
  omega
 ·by_cases hxc : x = c ∧ y = d
  ·obtain ⟨rfl, rfl⟩ := hxc
   rw [hl] at hl2
   obtain rfl := Option.some.inj hl2
   rw [has_put_same h2 (ts_keyed.key hl)]
   simp
  ·have hne : l2 ≠ l := by
    rintro rfl
    have := ts_keyed.inj hl2 hl
    simp at this
    exact hxc this
   rw [has_put_other hne, h3 x y l2 hl2]
   show S x y = (decide (x = c ∧ y = d) || S x y)
   rw [decide_eq_false hxc]; rfl
open Go.RowKit Go.Maps
set_option maxRecDepth 20000 in
set_option maxHeartbeats 3200000 in
theorem clnk_any (l : Lnk) (A C : Option Addr) (cp d : Nat) (L c : List Acc) (w : World) (hz : AccAt w A L) (hy : AccAt w C c) (hl : L.length ≤ 1000) (hm : c.length ≤ 1000) :
  Calls Tryz.prog 191 #[lnkV l, .slice A L.length cp, .slice C c.length d] w fun e w' => e = .returned (.bool (lnkB L c l)) ∧ Below w.heap.size w w' := by
 have hB := below_alloc_new (w := w) (.cells #[.int .i64 l.frm, .int .i64 l.tgt, .int .i64 l.since] 173)
 have HL := Lib.hid (lb_new w 173 l)
 have HZ := Lib.hid (hz.up hB)
 have HY := Lib.hid (hy.up hB)
 have hf := fun w h => cfind_any A cp L l.frm w h hl
 have hg := fun w h => cfind_any C d c l.tgt w h hm
 have hv := fun w => vd_any l.since w
 have hE : lnkB L c l = ((fnd L l.frm).isSome && ((fnd c l.tgt).isSome && (decide ((fndA L l.frm).kind = (fndA c l.tgt).kind) && vdB l.since))) := rfl
 generalize lnkB L c l = r at *
 generalize (fnd L l.frm).isSome = q1 at *
 generalize (fnd c l.tgt).isSome = q2 at *
 generalize fndA L l.frm = fa at *
 generalize fndA c l.tgt = fb at *
 generalize vdB l.since = q4 at *
 obtain ⟨q3, hq3⟩ : ∃ q3, decide (fa.kind = fb.kind) = q3 := ⟨_, rfl⟩
 have e3 : (fa.kind == fb.kind) = q3 := by rw [← hq3, Bool.eq_iff_iff]; simp
 rw [hq3] at hE
 generalize L.length = n at *
 generalize c.length = m at *
 obtain ⟨⟨v0, v1, v2⟩, vlt⟩ := HL.out
 simp only [Nat.zero_add] at v1 v2
 have HF := Lib.hid hf
 have HG := Lib.hid hg
 have HV := Lib.hid hv
 have HE := Lib.hid hE
 clear hf hg hv hE hq3 hz hy
 cases q1 <;> cases q2 <;> cases q3
 all_goals
  go_enter Tryz.func191, Tryz.ntmps191
  go_wp2_with (first
   | (go_at_call 173; first
    | ((with_reducible refine (HF.out _ HZ.out).mono ?_); rintro e w2 ⟨rfl, hb⟩; have HA := Lib.hid (ab_new w2 151 fa); replace HL := Lib.hid ((HL.out.up hb).up (below_alloc_new (.cells #[.int .i64 fa.code, .int .i64 fa.kind, .int .i64 fa.basis, .int .i64 fa.par] 151))); replace HY := Lib.hid ((HY.out.up hb).up (below_alloc_new (.cells #[.int .i64 fa.code, .int .i64 fa.kind, .int .i64 fa.basis, .int .i64 fa.par] 151))); replace hB := below_new (below_more hB hb) (.cells #[.int .i64 fa.code, .int .i64 fa.kind, .int .i64 fa.basis, .int .i64 fa.par] 151); clear hb v0 v1 v2 vlt; obtain ⟨⟨v0, v1, v2⟩, vlt⟩ := HL.out; simp only [Nat.zero_add] at v1 v2)
    | ((with_reducible refine (HG.out _ HY.out).mono ?_); rintro e w3 ⟨rfl, hb⟩; have HA3 := Lib.hid (ab_new w3 151 fb); replace HA := Lib.hid ((HA.out.up hb).up (below_alloc_new (.cells #[.int .i64 fb.code, .int .i64 fb.kind, .int .i64 fb.basis, .int .i64 fb.par] 151))); replace HL := Lib.hid ((HL.out.up hb).up (below_alloc_new (.cells #[.int .i64 fb.code, .int .i64 fb.kind, .int .i64 fb.basis, .int .i64 fb.par] 151))); replace hB := below_new (below_more hB hb) (.cells #[.int .i64 fb.code, .int .i64 fb.kind, .int .i64 fb.basis, .int .i64 fb.par] 151); clear hb v0 v1 v2 vlt; obtain ⟨⟨v0, v1, v2⟩, vlt⟩ := HL.out; simp only [Nat.zero_add] at v1 v2; obtain ⟨⟨x0, x1, x2, x3⟩, xlt, -⟩ := HA.out; obtain ⟨⟨y0, y1, y2, y3⟩, ylt, -⟩ := HA3.out; simp only [Nat.zero_add] at x1 x2 x3 y1 y2 y3))
   | (go_at_call 203; refine (HV.out _).mono ?_; rintro e w4 ⟨rfl, rfl⟩))
  go_ret
  exact ⟨by rw [HE.out]; rfl, hB⟩
theorem wpList_setp_len {w : World} {ops : Array Oper} {rest : List Oper} {o : Oper} {a : Act} {Q : Exit → Act → World → Prop} (hg : o.guard = none) (m : Operand) (t e : TypeId) (hop : o.op = Op.call { callee := Callee.builtin Builtin.len, args := #[m], argTypes := #[t] })
  (ht : Tryz.prog.underlying t = some (.map 233 e)) (b n : Nat) (S : Int → Int → Bool) (hm : a.eval m = .map (some b)) (hs : SetP w b n S)
  (hK : wpList Tryz.prog ops Q rest (a.put o.dst (.int .i64 (n : Int))) w) : wpList Tryz.prog ops Q (o :: rest) a w := by
 obtain ⟨D, h1, hsz, h3⟩ := hs
 refine wpList_len_own w hg m t hop 233 e ht heldE b n D hm h1 ?_
 rw [hsz]; exact hK
structure DI (K : List Lnk) (k m : Nat) (S : Int → Int → Bool) : Prop where
 mem : ∀ x y, S x y = true ↔ ∃ i, i < k ∧ (K.getD i lnk0).frm = x ∧ (K.getD i lnk0).since = y
 le : m ≤ k
 iff : m = k ↔ allTo (dfB K) k = true
theorem DI.start {K : List Lnk} : DI K 0 0 (fun _ _ => false) := ⟨fun x y => by simp, Nat.le_refl _, by simp [allTo]⟩
theorem dfB_is {K : List Lnk} {i : Nat} : dfB K i = true ↔ ∀ k, k < i → ¬ ((K.getD k lnk0).frm = (K.getD i lnk0).frm ∧ (K.getD k lnk0).since = (K.getD i lnk0).since) := by
 unfold dfB
 rw [allTo_is]
 have e : ∀ k, (!smB K i k) = true ↔ ¬ ((K.getD k lnk0).frm = (K.getD i lnk0).frm ∧ (K.getD k lnk0).since = (K.getD i lnk0).since) := by
  intro k
  unfold smB
  rw [Bool.not_eq_true', Bool.and_eq_false_iff, decide_eq_false_iff_not, decide_eq_false_iff_not]
  exact ⟨fun h h2 => h.elim (fun h3 => h3 h2.1) (fun h3 => h3 h2.2), fun h => by
   by_cases h1 : (K.getD k lnk0).frm = (K.getD i lnk0).frm
   ·exact .inr fun h2 => h ⟨h1, h2⟩
   ·exact .inl h1⟩
 exact ⟨fun h k hk => (e k).1 (h k hk), fun h k hk => (e k).2 (h k hk)⟩
theorem DI.step {K : List Lnk} {k m : Nat} {S : Int → Int → Bool} {x : Lnk} (h : DI K k m S) (hx : K.getD k lnk0 = x) :
  DI K (k + 1) (if S x.frm x.since = true then m else m + 1) (fun a b => decide (a = x.frm ∧ b = x.since) || S a b) := by
 have hd : dfB K k = !S x.frm x.since := by
  cases hS : S x.frm x.since with
  | true =>
   obtain ⟨i, hi, h1, h2⟩ := (h.mem _ _).1 hS
   cases hq : dfB K k with
   | false => rfl
   | true => exact absurd ⟨by rw [hx]; exact h1, by rw [hx]; exact h2⟩ (dfB_is.1 hq i hi)
  | false =>
   show dfB K k = true
   rw [dfB_is]
   rintro i hi ⟨h1, h2⟩
   have := (h.mem x.frm x.since).2 ⟨i, hi, by rw [h1, hx], by rw [h2, hx]⟩
   rw [hS] at this; cases this
 refine ⟨fun a b => ?_, ?_, ?_⟩
 ·simp only [Bool.or_eq_true, decide_eq_true_eq, h.mem]
  constructor
  ·rintro (⟨rfl, rfl⟩ | ⟨i, hi, h1, h2⟩)
   ·exact ⟨k, by omega, by rw [hx], by rw [hx]⟩
   ·exact ⟨i, by omega, h1, h2⟩
  ·rintro ⟨i, hi, h1, h2⟩
   rcases Nat.lt_or_ge i k with h3 | h3
   ·exact .inr ⟨i, h3, h1, h2⟩
   ·obtain rfl : i = k := by omega
    rw [hx] at h1 h2
    exact .inl ⟨h1.symm, h2.symm⟩
 ·have := h.le; split <;> omega
 ·have h1 := h.le
  have h2 := h.iff
  simp only [allTo, Bool.and_eq_true, hd]
  cases hS : S x.frm x.since
  ·simp only [Bool.not_false, and_true, if_neg (show ¬ (false = true) by simp)]
   rw [← h2]; omega
  ·simp only [Bool.not_true, if_true]
   constructor
   ·intro h3; omega
   ·rintro ⟨_, h3⟩; cases h3
structure WfL (l : Lnk) : Prop where
 frm : (Lit.int .i64 l.frm).wf = true
 tgt : (Lit.int .i64 l.tgt).wf = true
 since : (Lit.int .i64 l.since).wf = true
set_option maxRecDepth 20000 in
set_option maxHeartbeats 3200000 in
theorem cdist_any (A : Option Addr) (cp : Nat) (K : List Lnk) (w : World) (hz : LnkAt w A K) (hl : K.length ≤ 1000) (hw : ∀ l ∈ K, WfL l) :
  Calls Tryz.prog 192 #[.slice A K.length cp] w fun e w' => e = .returned (.bool (allTo (dfB K) K.length)) ∧ Below w.heap.size w w' := by
 have hB := below_alloc_new (w := w) (.map #[] 0)
 have hM := SetP.made w
 obtain ⟨q, hq⟩ : ∃ q, allTo (dfB K) K.length = q := ⟨_, rfl⟩
 rw [hq]
 obtain ⟨n, hn⟩ : ∃ n, K.length = n := ⟨_, rfl⟩
 obtain ⟨s0, hs0⟩ : ∃ s0, w.heap.size = s0 := ⟨_, rfl⟩
 rw [hn] at hl hq ⊢
 rw [hs0] at hB hM ⊢
 have HN := Lib.hid hn
 have HZ := Lib.hid hz
 have HW := Lib.hid hw
 have HS0 := Lib.hid hs0
 have HM := Lib.hid hM
 have HQ := Lib.hid hq
 have hmm := @run_makeMap Tryz.prog
 clear hn hz hw hM hq
 go_enter Tryz.func192, Tryz.ntmps192
 go_wp2_with fail
 clear hs0
 go_loopg [9] n (fun kx s9 wr => ∃ (k m : Nat) (S : Int → Int → Bool), s9 = .int .i64 k ∧ k ≤ n ∧ n - k ≤ kx ∧ Hid (DI K k m S) ∧ Hid (SetP wr s0 m S) ∧ Below s0 w wr)
 case atStart => exact ⟨0, 0, _, rfl, by omega, by omega, Lib.hid DI.start, HM, hB⟩
 case round =>
  clear hB HM
  obtain ⟨k, m, S, rfl, hk, hkx, HD, HM, hB⟩ := hrel
  by_cases hlt : k < n
  ·have hltz : (k : Int) < (n : Int) := by omega
   have hsz : s0 ≤ wr.heap.size := by have := hB.size; have := HS0.out; omega
   obtain ⟨b, off, rfl, hbw, hcs⟩ := HZ.out (by rw [HN.out]; omega)
   obtain ⟨c0, c1, c2⟩ := (hcs k (by rw [HN.out]; exact hlt)).up hB (by have := HS0.out; omega)
   obtain ⟨x, hx⟩ : ∃ x, K.getD k lnk0 = x := ⟨_, rfl⟩
   rw [hx] at c0 c1 c2
   have HWX := Lib.hid (HW.out x (by rw [← hx]; exact getD_mem_acc (by rw [HN.out]; exact hlt)))
   have HDS := Lib.hid (HD.out.step hx)
   have hm1 : m ≤ 1000 := by have := HD.out.le; omega
   have HM1 := Lib.hid (HM.out.up (below_alloc_new (.cells #[.int .i64 x.frm, .int .i64 x.tgt, .int .i64 x.since] 173)))
   have hB1 : Below s0 w (wr.alloc (.cells #[.int .i64 x.frm, .int .i64 x.tgt, .int .i64 x.since] 173)) := hB.alloc hsz _
   have hsm := HM.out.lt
   clear hx hcs
   go_wp2_with (at_mapUpdate; refine wpList_setp_put rfl _ _ _ _ 4 rfl Tryz.underlying231 s0 m S rfl HM1.out x.frm x.since rfl _ rfl HWX.out.frm HWX.out.since (by omega) ?_; intro w2 hm2 hg2; have hb2 := grown_below hB1 hg2.out (Nat.le_refl _) (by simp; omega); clear hg2)
   go_roundg (n - (k + 1))
   case measure => omega
   case rel => exact ⟨k + 1, _, _, by go_num, by omega, by omega, HDS, hm2, hb2⟩
  ·obtain rfl : k = n := by omega
   have hltz : ¬ (k : Int) < (k : Int) := by omega
   have e9 : ((m : Int) == (k : Int)) = q := by
    rw [← HQ.out]
    have h1 := HD.out.iff
    cases h2 : allTo (dfB K) k with
    | true => rw [h2] at h1; have := h1.2 rfl; subst this; simp
    | false => rw [h2] at h1; simp; intro h3; have := h1.1 (by omega); cases this
   go_wp2_with (at_len; refine wpList_setp_len rfl _ _ 4 rfl Tryz.underlying231 s0 m S rfl HM.out ?_)
   go_ret
   exact ⟨rfl, hB⟩
def WfC (L : List Acc) : Prop := ∀ a ∈ L, (Lit.int .i64 a.code).wf = true
section
variable {w wb w2 w4 : World} {base mb : Nat} {GA GB : Int → Value} {L : List Acc} {K : List Lnk} {v : Value}
end
open Go.ChangeShapes Go.WideShapes Go.ChangeAt Go.WideMaps Go.WideElems Go.RowKit Go.Deep Go.Joins
section
variable {H : Type} {enc : TypeId × Value → H} {P : Program} {W : World}
theorem open_wrows {T E I : TypeId} {fs : Array Field} {fuel : Nat} {cs : List Value} {x : DataW H × List MemPlace} (hT : P.underlying T = some (.slice E)) (hE : P.underlying E = some (.struct fs))
  (hone : oneCellFields P fs = true) (hC : P.cellsOf E = fs.size) (hty : (fs.toList.all fun f => f.type == I) = true) (hI : P.underlying I = some (.int .i64)) (hn : 0 < fs.size)
  (hf : DataW.trod enc P W 0 (fun _ => true) true fuel T cs = some x) :
  ∃ A len cap, cs = [.slice A len cap] ∧ len ≤ 9223372036854775807 ∧ ∃ X : Nat → Nat → Int, 0 < len → ∃ b off, A = some ⟨b, off, none⟩ ∧ b < W.heap.size ∧ ∀ k, k < len → ∀ j, j < fs.size → W.cell? ⟨b, off + (k * fs.size + j), none⟩ = some (.int .i64 (X k j)) ∧ (Lit.int .i64 (X k j)).wf = true := by
 rcases open_slice hT hf with ⟨hcs, -⟩ | ⟨a, len, cap, m, n, D, Pl, hcs, -, hl, hm, hmm, -, hx⟩
 ·exact ⟨none, 0, 0, hcs, by omega, fun _ _ => 0, fun h => by omega⟩
 ·simp only [if_true] at hmm
  subst hmm
  unfold maxLen at hm
  have key : ∀ k, k < len → ∀ j, j < fs.size → ∃ z : Int, W.cell? (a.add (k * fs.size + j)) = some (.int .i64 z) ∧ (Lit.int .i64 z).wf = true := by
   intro k hk j hj
   obtain ⟨cs', h1, h2⟩ := hx k (by omega)
   rw [hC] at h1
   obtain ⟨_, hlen, hcell⟩ := World.cells?_some h1
   obtain ⟨xs, n', -, -, -, hxl, hff⟩ := DataW.trod_struct hE h2
   have hfj : fs[j]? = some fs[j] := Array.getElem?_eq_getElem hj
   obtain ⟨ho, hk1⟩ := hone_of hone j _ hfj
   have ht : fs[j].type = I := by
    have := List.all_eq_true.1 hty fs[j] (by simp)
    simpa using this
   have hxj : xs[j]? = some (xs[j]'(by omega)) := List.getElem?_eq_getElem (by omega)
   have h3 := hff j _ hfj
   rw [ho, hk1, ht, hxj] at h3
   obtain ⟨z, hz, -, hw⟩ := DataW.trod_int hI h3
   refine ⟨z, ?_, hw⟩
   have h4 := hcell j hj
   rw [add_add] at h4
   rw [h4]
   have h5 : (cs'.drop j).take 1 = [cs'[j]'(by omega)] := by
    rw [List.drop_eq_getElem_cons (by omega)]; rfl
   rw [h5] at hz
   rw [List.getElem?_eq_getElem (by omega)]
   injection hz with hz
   rw [hz]
  obtain ⟨b, off, spot⟩ := a
  refine ⟨_, len, _, hcs, by omega, fun k j => cellNum (W.cell? (Addr.add ⟨b, off, spot⟩ (k * fs.size + j))), fun h0 => ?_⟩
  obtain ⟨z0, hz0, -⟩ := key 0 h0 0 hn
  have hspot : spot = none := by simpa [Addr.add] using World.cell?_spot hz0
  subst hspot
  have hlt : b < W.heap.size := by
   rcases Nat.lt_or_ge b W.heap.size with hlt | hge
   ·exact hlt
   ·unfold World.cell? at hz0
    rw [show (Addr.add ⟨b, off, none⟩ (0 * fs.size + 0)).block = b from by rw [block_add], Array.getElem?_eq_none hge] at hz0
    simp at hz0
  refine ⟨b, off, rfl, hlt, fun k hk j hj => ?_⟩
  obtain ⟨z, hz, hw⟩ := key k hk j hj
  dsimp only
  rw [hz]
  rw [Go.WideShapes.add_plain] at hz
  exact ⟨hz, hw⟩
theorem open_waccs {T E I : TypeId} {f0 f1 f2 f3 : Field} {fuel : Nat} {cs : List Value} {x : DataW H × List MemPlace} (hT : P.underlying T = some (.slice E)) (hE : P.underlying E = some (.struct #[f0, f1, f2, f3]))
  (hone : oneCellFields P #[f0, f1, f2, f3] = true) (hC : P.cellsOf E = 4) (hty : ([f0, f1, f2, f3].all fun f => f.type == I) = true) (hI : P.underlying I = some (.int .i64))
  (hf : DataW.trod enc P W 0 (fun _ => true) true fuel T cs = some x) :
  ∃ A len cap L, cs = [.slice A len cap] ∧ L.length = len ∧ len ≤ 9223372036854775807 ∧ AccAt W A L ∧ WfC L := by
 obtain ⟨A, len, cap, rfl, hmax, X, hX⟩ := open_wrows hT hE hone hC hty hI (by simp) hf
 have hg : ∀ i, i < len → ((List.range len).map fun k => (⟨X k 0, X k 1, X k 2, X k 3⟩ : Acc)).getD i acc0 = ⟨X i 0, X i 1, X i 2, X i 3⟩ := fun i hi2 => by
  rw [List.getD_eq_getElem?_getD, List.getElem?_map, List.getElem?_range hi2]; rfl
 refine ⟨A, len, cap, (List.range len).map fun k => ⟨X k 0, X k 1, X k 2, X k 3⟩, rfl, by simp, hmax, fun h0 => ?_, fun a ha => ?_⟩
 ·obtain ⟨b, off, e, hlt, hc⟩ := hX (by simpa using h0)
  refine ⟨b, off, e, hlt, fun i hi => ?_⟩
  have hi2 : i < len := by simpa using hi
  rw [hg i hi2]
  exact ⟨(hc i hi2 0 (by simp)).1, (hc i hi2 1 (by simp)).1, (hc i hi2 2 (by simp)).1, (hc i hi2 3 (by simp)).1⟩
 ·obtain ⟨k, hk, rfl⟩ := List.mem_map.1 ha
  have hk2 : k < len := by simpa using hk
  obtain ⟨b, off, e, hlt, hc⟩ := hX (by omega)
  exact (hc k hk2 0 (by simp)).2
theorem open_wlnks {T E I : TypeId} {f0 f1 f2 : Field} {fuel : Nat} {cs : List Value} {x : DataW H × List MemPlace} (hT : P.underlying T = some (.slice E)) (hE : P.underlying E = some (.struct #[f0, f1, f2]))
  (hone : oneCellFields P #[f0, f1, f2] = true) (hC : P.cellsOf E = 3) (hty : ([f0, f1, f2].all fun f => f.type == I) = true) (hI : P.underlying I = some (.int .i64))
  (hf : DataW.trod enc P W 0 (fun _ => true) true fuel T cs = some x) :
  ∃ A len cap K, cs = [.slice A len cap] ∧ K.length = len ∧ len ≤ 9223372036854775807 ∧ LnkAt W A K ∧ ∀ l ∈ K, WfL l := by
 obtain ⟨A, len, cap, rfl, hmax, X, hX⟩ := open_wrows hT hE hone hC hty hI (by simp) hf
 have hg : ∀ i, i < len → ((List.range len).map fun k => (⟨X k 0, X k 1, X k 2⟩ : Lnk)).getD i lnk0 = ⟨X i 0, X i 1, X i 2⟩ := fun i hi2 => by
  rw [List.getD_eq_getElem?_getD, List.getElem?_map, List.getElem?_range hi2]; rfl
 refine ⟨A, len, cap, (List.range len).map fun k => ⟨X k 0, X k 1, X k 2⟩, rfl, by simp, hmax, fun h0 => ?_, fun a ha => ?_⟩
 ·obtain ⟨b, off, e, hlt, hc⟩ := hX (by simpa using h0)
  refine ⟨b, off, e, hlt, fun i hi => ?_⟩
  have hi2 : i < len := by simpa using hi
  rw [hg i hi2]
  exact ⟨(hc i hi2 0 (by simp)).1, (hc i hi2 1 (by simp)).1, (hc i hi2 2 (by simp)).1⟩
 ·obtain ⟨k, hk, rfl⟩ := List.mem_map.1 ha
  have hk2 : k < len := by simpa using hk
  obtain ⟨b, off, e, hlt, hc⟩ := hX (by omega)
  exact ⟨(hc k hk2 0 (by simp)).2, (hc k hk2 1 (by simp)).2, (hc k hk2 2 (by simp)).2⟩
structure EntK (W : World) (A : Option Addr) (n : Nat) (L : List Acc) (B : Option Addr) (m : Nat) (K : List Lnk) : Prop where
 ln : L.length = n
 lm : K.length = m
 hz : AccAt W A L
 hy : LnkAt W B K
 wa : WfC L
 wl : ∀ l ∈ K, WfL l
end
theorem cells5 {cs : List Value} (h : cs.length = 5) : ∃ c0 c1 c2 c3 c4, cs = [c0, c1, c2, c3, c4] := by
 match cs, h with
 | [c0, c1, c2, c3, c4], _ => exact ⟨c0, c1, c2, c3, c4, rfl⟩
section
variable {H : Type} {enc : TypeId × Value → H} {W : World}
set_option maxRecDepth 100000 in
theorem open_entC {fuel : Nat} {cs : List Value} {x : DataW H × List MemPlace} (hf : DataW.trod enc Tryz.prog W 0 (fun _ => true) true fuel 119 cs = some x) :
  ∃ nm cur A n c L B m d K jt, cs = [.string nm, .string cur, .slice A n c, .slice B m d, .bool jt] ∧ EntK W A n L B m K ∧ nm.size ≤ maxLen ∧ cur.size ≤ maxLen := by
 obtain ⟨xs, n', -, -, hlen, hxl, hff⟩ := DataW.trod_struct Tryz.underlying119 hf
 have hC : Tryz.prog.cellsOf 119 = 5 := by kernel_rfl
 rw [hC] at hlen
 obtain ⟨c0, c1, c2, c3, c4, rfl⟩ := cells5 hlen
 have k9 : Tryz.prog.cellsOf 9 = 1 := by kernel_rfl
 have k22 : Tryz.prog.cellsOf 24 = 1 := by kernel_rfl
 have k23 : Tryz.prog.cellsOf 117 = 1 := by kernel_rfl
 have k4 : Tryz.prog.cellsOf 4 = 1 := by kernel_rfl
 have hxl' : xs.length = 5 := hxl
 have hget : ∀ i, i < 5 → ∃ y, xs[i]? = some y := fun i hi => ⟨_, List.getElem?_eq_getElem (by omega)⟩
 have h0 : DataW.trod enc Tryz.prog W 0 (fun _ => true) true n' 9 (([c0, c1, c2, c3, c4].drop 0).take (Tryz.prog.cellsOf 9)) = xs[0]? := hff 0 _ rfl
 have h1 : DataW.trod enc Tryz.prog W 0 (fun _ => true) true n' 9 (([c0, c1, c2, c3, c4].drop 1).take (Tryz.prog.cellsOf 9)) = xs[1]? := hff 1 _ rfl
 have h2 : DataW.trod enc Tryz.prog W 0 (fun _ => true) true n' 24 (([c0, c1, c2, c3, c4].drop 2).take (Tryz.prog.cellsOf 24)) = xs[2]? := hff 2 _ rfl
 have h3 : DataW.trod enc Tryz.prog W 0 (fun _ => true) true n' 117 (([c0, c1, c2, c3, c4].drop 3).take (Tryz.prog.cellsOf 117)) = xs[3]? := hff 3 _ rfl
 have h4 : DataW.trod enc Tryz.prog W 0 (fun _ => true) true n' 4 (([c0, c1, c2, c3, c4].drop 4).take (Tryz.prog.cellsOf 4)) = xs[4]? := hff 4 _ rfl
 obtain ⟨y0, e0⟩ := hget 0 (by omega)
 obtain ⟨y1, e1⟩ := hget 1 (by omega)
 obtain ⟨y2, e2⟩ := hget 2 (by omega)
 obtain ⟨y3, e3⟩ := hget 3 (by omega)
 obtain ⟨y4, e4⟩ := hget 4 (by omega)
 rw [e0] at h0
 rw [e1] at h1
 rw [e2] at h2
 rw [e3] at h3
 rw [e4] at h4
 rw [k9] at h0 h1
 rw [k22] at h2
 rw [k23] at h3
 rw [k4] at h4
 obtain ⟨nm, q0, -, b0⟩ := DataW.trod_string Tryz.underlying9 h0
 obtain ⟨cur, q1, -, b1⟩ := DataW.trod_string Tryz.underlying9 h1
 obtain ⟨A, n, c, L, q2, ln, -, hz, wa⟩ := open_waccs Tryz.underlying24 Tryz.underlying151 (by kernel_rfl) (by kernel_rfl) (by kernel_rfl) Tryz.underlying3 h2
 obtain ⟨B, m, d, K, q3, lm, -, hy, wl⟩ := open_wlnks Tryz.underlying117 Tryz.underlying173 (by kernel_rfl) (by kernel_rfl) (by kernel_rfl) Tryz.underlying3 h3
 obtain ⟨jt, q4, -⟩ := DataW.trod_bool Tryz.underlying4 h4
 simp at q0 q1 q2 q3 q4
 subst q0 q1 q2 q3 q4
 exact ⟨nm, cur, A, n, c, L, B, m, d, K, jt, rfl, ⟨ln, lm, hz, hy, wa, wl⟩, b0, b1⟩
end
open Go.ChangeShapes Go.WideShapes Go.ChangeAt Go.WideMaps Go.WideElems Go.RowKit Go.Deep Go.Joins
structure Ent where
 nm : ByteArray
 cur : ByteArray
 A : Option Addr
 n : Nat
 c : Nat
 B : Option Addr
 m : Nat
 d : Nat
 jt : Bool
 L : List Acc
 K : List Lnk
abbrev ent0 : Ent := ⟨⟨#[]⟩, ⟨#[]⟩, none, 0, 0, none, 0, 0, false, [], []⟩
structure E5 (w : World) (b o : Nat) (e : Ent) : Prop where
 c0 : w.cell? ⟨b, o, none⟩ = some (.string e.nm)
 c1 : w.cell? ⟨b, o + 1, none⟩ = some (.string e.cur)
 c2 : w.cell? ⟨b, o + 2, none⟩ = some (.slice e.A e.n e.c)
 c3 : w.cell? ⟨b, o + 3, none⟩ = some (.slice e.B e.m e.d)
 c4 : w.cell? ⟨b, o + 4, none⟩ = some (.bool e.jt)
def EntsAt (w : World) (X : Option Addr) (G : List Ent) : Prop := 0 < G.length → ∃ b off, X = some ⟨b, off, none⟩ ∧ b < w.heap.size ∧ ∀ i, i < G.length → E5 w b (off + i * 5) (G.getD i ent0)
def EntsK (w : World) (G : List Ent) : Prop := ∀ e ∈ G, EntK w e.A e.n e.L e.B e.m e.K
section
variable {w w' : World} {b o Bs : Nat} {e : Ent} {X : Option Addr} {G : List Ent}
theorem E5.up (h : E5 w b o e) (hb : Below Bs w w') (hlt : b < Bs) : E5 w' b o e :=
 ⟨(hb.cell (p := ⟨b, o, none⟩) hlt).trans h.c0, (hb.cell (p := ⟨b, o + 1, none⟩) hlt).trans h.c1, (hb.cell (p := ⟨b, o + 2, none⟩) hlt).trans h.c2, (hb.cell (p := ⟨b, o + 3, none⟩) hlt).trans h.c3, (hb.cell (p := ⟨b, o + 4, none⟩) hlt).trans h.c4⟩
theorem EntsAt.up (h : EntsAt w X G) (hb : Below w.heap.size w w') : EntsAt w' X G := fun h0 => by
 obtain ⟨b, off, e, hlt, hc⟩ := h h0
 exact ⟨b, off, e, Nat.lt_of_lt_of_le hlt hb.size, fun i hi => (hc i hi).up hb hlt⟩
theorem EntsAt.nil : EntsAt w X [] := fun h => absurd h (by simp)
theorem EntK.up {A B : Option Addr} {n m : Nat} {L : List Acc} {K : List Lnk} (h : EntK w A n L B m K) (hb : Below w.heap.size w w') : EntK w' A n L B m K := ⟨h.ln, h.lm, h.hz.up hb, h.hy.up hb, h.wa, h.wl⟩
theorem EntsK.up (h : EntsK w G) (hb : Below w.heap.size w w') : EntsK w' G := fun e he => (h e he).up hb
end
section
variable {H : Type} {enc : TypeId × Value → H} {W : World}
set_option maxRecDepth 100000 in
theorem open_entsC {T : TypeId} {fuel : Nat} {cs : List Value} {x : DataW H × List MemPlace} (hT : Tryz.prog.underlying T = some (.slice 119)) (hf : DataW.trod enc Tryz.prog W 0 (fun _ => true) true fuel T cs = some x) :
  ∃ X len cap G, cs = [.slice X len cap] ∧ G.length = len ∧ len ≤ 9223372036854775807 ∧ EntsAt W X G ∧ EntsK W G ∧ ∀ e ∈ G, e.nm.size ≤ maxLen ∧ e.cur.size ≤ maxLen := by
 rcases open_slice hT hf with ⟨hcs, -⟩ | ⟨a, len, cap, m, n, D, Pl, hcs, -, hl, hm, hmm, -, hx⟩
 ·exact ⟨none, 0, 0, [], hcs, rfl, by omega, EntsAt.nil, fun e he => (by cases he), fun e he => (by cases he)⟩
 ·simp only [if_true] at hmm
  subst hmm
  unfold maxLen at hm
  have hC : Tryz.prog.cellsOf 119 = 5 := by kernel_rfl
  rw [hC] at hx
  have key : ∀ k, ∃ e : Ent, k < len → W.cell? (a.add (k * 5)) = some (.string e.nm) ∧ W.cell? (a.add (k * 5 + 1)) = some (.string e.cur) ∧ W.cell? (a.add (k * 5 + 2)) = some (.slice e.A e.n e.c) ∧ W.cell? (a.add (k * 5 + 3)) = some (.slice e.B e.m e.d) ∧ W.cell? (a.add (k * 5 + 4)) = some (.bool e.jt) ∧ EntK W e.A e.n e.L e.B e.m e.K ∧ e.nm.size ≤ maxLen ∧ e.cur.size ≤ maxLen := by
   intro k
   by_cases hk : k < len
   ·obtain ⟨cs', h1, h2⟩ := hx k (by omega)
    obtain ⟨_, hlen, hcell⟩ := World.cells?_some h1
    obtain ⟨nm, cur, A, n', c, L, B, m', d, K, jt, rfl, hK, b1, b2⟩ := open_entC h2
    refine ⟨⟨nm, cur, A, n', c, B, m', d, jt, L, K⟩, fun _ => ?_⟩
    have g0 := hcell 0 (by simp)
    have g1 := hcell 1 (by simp)
    have g2 := hcell 2 (by simp)
    have g3 := hcell 3 (by simp)
    have g4 := hcell 4 (by simp)
    rw [add_add] at g0 g1 g2 g3 g4
    exact ⟨g0, g1, g2, g3, g4, hK, b1, b2⟩
   ·exact ⟨ent0, fun h => absurd h hk⟩
  obtain ⟨F, hF⟩ := Classical.axiomOfChoice key
  obtain ⟨b, off, spot⟩ := a
  refine ⟨_, len, _, (List.range len).map F, hcs, by simp, by omega, fun h0 => ?_, fun e he => ?_, fun e he => ?_⟩
  ·have hl0 : 0 < len := by simpa using h0
   have hz0 := (hF 0 hl0).1
   have hspot : spot = none := by simpa [Addr.add] using World.cell?_spot hz0
   subst hspot
   have hlt : b < W.heap.size := by
    rcases Nat.lt_or_ge b W.heap.size with hlt | hge
    ·exact hlt
    ·unfold World.cell? at hz0
     rw [show (Addr.add ⟨b, off, none⟩ (0 * 5)).block = b from by rw [block_add], Array.getElem?_eq_none hge] at hz0
     simp at hz0
   refine ⟨b, off, rfl, hlt, fun i hi => ?_⟩
   have hi2 : i < len := by simpa using hi
   have hg : ((List.range len).map F).getD i ent0 = F i := by
    rw [List.getD_eq_getElem?_getD, List.getElem?_map, List.getElem?_range hi2]; rfl
   rw [hg]
   obtain ⟨g0, g1, g2, g3, g4, -⟩ := hF i hi2
   rw [Go.WideShapes.add_plain] at g0 g1 g2 g3 g4
   exact ⟨g0, g1, g2, g3, g4⟩
  ·obtain ⟨k, hk, rfl⟩ := List.mem_map.1 he
   exact (hF k (by simpa using hk)).2.2.2.2.2.1
  ·obtain ⟨k, hk, rfl⟩ := List.mem_map.1 he
   exact (hF k (by simpa using hk)).2.2.2.2.2.2
end
theorem bl_inj {a b : ByteArray} (h : a.toList = b.toList) : a = b := by
 rw [ByteArray.toList_eq, ByteArray.toList_eq] at h
 exact ByteArray.ext (Array.toList_inj.1 h)
def allC (p : UInt8 → Bool) (s : ByteArray) : Bool := s.data.toList.all p
theorem tl_at (s : ByteArray) (k : Nat) (h : k < s.size) : s.data.toList[k]'(by simpa using h) = s[k] := by simp; rfl
theorem allC_no {p : UInt8 → Bool} {s : ByteArray} {k : Nat} (h : k < s.size) (hd : p (s[k]'h) = false) : allC p s = false := by
 cases ha : allC p s
 ·rfl
 ·unfold allC at ha
  rw [List.all_eq_true] at ha
  have := ha _ (List.getElem_mem (l := s.data.toList) (n := k) (by simpa using h))
  rw [tl_at s k h, hd] at this
  cases this
theorem allC_yes {p : UInt8 → Bool} {s : ByteArray} (h : ∀ j, (h2 : j < s.size) → p (s[j]'h2) = true) : allC p s = true := by
 unfold allC
 rw [List.all_eq_true]
 intro c hc
 obtain ⟨j, hj, rfl⟩ := List.getElem_of_mem hc
 rw [tl_at s j (by simpa using hj)]
 exact h j (by simpa using hj)
def capB (b : UInt8) : Bool := decide (65 ≤ b.toNat) && decide (b.toNat ≤ 90)
def letB (b : UInt8) : Bool := capB b || (decide (97 ≤ b.toNat) && decide (b.toNat ≤ 122))
def digB (b : UInt8) : Bool := decide (48 ≤ b.toNat) && decide (b.toNat ≤ 57)
def namB (b : UInt8) : Bool := letB b || (digB b || decide (b.toNat = 45))
def curB (s : ByteArray) : Bool := decide (s.size = 3) && allC capB s
def frsB (s : ByteArray) : Bool := if h : 0 < s.size then letB (s[0]'h) else false
def nameB (s : ByteArray) : Bool := decide (s.size ≤ 16) && (frsB s && allC namB s)
theorem curB_no {s : ByteArray} {k : Nat} (h : k < s.size) (hd : capB (s[k]'h) = false) : curB s = false := by
 unfold curB; rw [allC_no h hd]; simp
theorem nameB_no {s : ByteArray} {k : Nat} (h : k < s.size) (hd : namB (s[k]'h) = false) : nameB s = false := by
 unfold nameB; rw [allC_no h hd]; simp
theorem nameB_fr {s : ByteArray} (h : 0 < s.size) (hd : letB (s[0]'h) = false) : nameB s = false := by
 unfold nameB frsB; rw [dif_pos h, hd]; simp
theorem nameB_long {s : ByteArray} (h : 16 < s.size) : nameB s = false := by
 unfold nameB; rw [decide_eq_false (by omega)]; rfl
theorem nameB_nil {s : ByteArray} (h : s.size = 0) : nameB s = false := by
 unfold nameB frsB; rw [dif_neg (by omega)]; simp
theorem nameB_yes {s : ByteArray} (h0 : 0 < s.size) (h : s.size ≤ 16) (hf : letB (s[0]'h0) = true) (ha : ∀ j, (h2 : j < s.size) → namB (s[j]'h2) = true) : nameB s = true := by
 unfold nameB frsB; rw [decide_eq_true h, dif_pos h0, hf, allC_yes ha]; rfl
def basB (a : Acc) : Bool := if a.kind = 1 ∨ a.kind = 2 then decide (a.basis = 1) || decide (a.basis = 3) else if a.kind = 3 then decide (a.basis = 3) else decide (a.basis = 2)
def pbsB (a : Acc) : Bool := if a.kind = 1 ∨ a.kind = 2 then !decide (a.basis = 2) else if a.kind = 3 then decide (a.basis = 3) else decide (a.basis = 2)
theorem bas_eq {a : Acc} (h : kinB true a = true) : pbsB a = basB a := by
 unfold pbsB basB
 split
 ·have h := kinB_is h
  have e1 : loB true = 1 := rfl
  have e2 : hiB true = 3 := rfl
  rw [e1, e2] at h
  have h1 : a.basis = 1 ∨ a.basis = 2 ∨ a.basis = 3 := by omega
  rcases h1 with h1 | h1 | h1 <;> rw [h1] <;> rfl
 ·rfl
def chaB (L : List Acc) : Bool := vB L true && L.all basB
theorem vB_kin {L : List Acc} (h : vB L true = true) : ∀ a ∈ L, kinB true a = true := by
 unfold vB kindsB at h
 simp only [Bool.and_eq_true] at h
 exact List.all_eq_true.1 h.1.1.2
def rlK (i : Nat) : Int := ([1, 1, 1, 1, 3, 3, 3, 3, 3, 4, 4, 4, 5, 5, 5] : List Int).getD i 0
def rlB (i : Nat) : Int := ([3, 3, 3, 1, 3, 3, 3, 3, 3, 2, 2, 2, 2, 2, 2] : List Int).getD i 0
def rlM (i : Nat) : Bool := ([true, false, false, true, false, false, true, false, false, false, false, true, false, false, false] : List Bool).getD i false
def chkR (L : List Acc) (R : List Int) (i : Nat) : Bool := (fnd L (R.getD i 0)).isSome && (decide ((fndA L (R.getD i 0)).kind = rlK i) && decide ((fndA L (R.getD i 0)).basis = rlB i))
def dsR (R : List Int) (i : Nat) : Bool := allTo (fun k => !decide (R.getD k 0 = R.getD i 0)) i
def rlsB (L : List Acc) (R : List Int) : Bool := allTo (chkR L R) 15 && allTo (dsR R) 15
structure RI (R : List Int) (k m : Nat) (S : Int → Bool) : Prop where
 mem : ∀ x, S x = true ↔ ∃ i, i < k ∧ R.getD i 0 = x
 le : m ≤ k
 iff : m = k ↔ allTo (dsR R) k = true
theorem RI.start {R : List Int} : RI R 0 0 (fun _ => false) := ⟨fun x => by simp, Nat.le_refl _, by simp [allTo]⟩
theorem dsR_is {R : List Int} {i : Nat} : dsR R i = true ↔ ∀ k, k < i → R.getD k 0 ≠ R.getD i 0 := by
 unfold dsR
 rw [allTo_is]
 exact ⟨fun h k hk => by have := h k hk; simpa using this, fun h k hk => by have := h k hk; simpa using this⟩
theorem RI.step {R : List Int} {k m : Nat} {S : Int → Bool} {x : Int} (h : RI R k m S) (hx : R.getD k 0 = x) :
  RI R (k + 1) (if S x = true then m else m + 1) (fun a => decide (a = x) || S a) := by
 have hd : dsR R k = !S x := by
  cases hS : S x with
  | true =>
   obtain ⟨i, hi, h1⟩ := (h.mem _).1 hS
   cases hq : dsR R k with
   | false => rfl
   | true => exact absurd (by rw [hx]; exact h1) (dsR_is.1 hq i hi)
  | false =>
   show dsR R k = true
   rw [dsR_is]
   intro i hi h1
   have := (h.mem x).2 ⟨i, hi, by rw [h1, hx]⟩
   rw [hS] at this; cases this
 refine ⟨fun a => ?_, ?_, ?_⟩
 ·simp only [Bool.or_eq_true, decide_eq_true_eq, h.mem]
  constructor
  ·rintro (rfl | ⟨i, hi, h1⟩)
   ·exact ⟨k, by omega, hx⟩
   ·exact ⟨i, by omega, h1⟩
  ·rintro ⟨i, hi, h1⟩
   rcases Nat.lt_or_ge i k with h3 | h3
   ·exact .inr ⟨i, h3, h1⟩
   ·obtain rfl : i = k := by omega
    exact .inl (by rw [← h1, hx])
 ·have := h.le; split <;> omega
 ·have h1 := h.le
  have h2 := h.iff
  simp only [allTo, Bool.and_eq_true, hd]
  cases hS : S x
  ·simp only [Bool.not_false, and_true, if_neg (show ¬ (false = true) by simp)]
   rw [← h2]; omega
  ·simp only [Bool.not_true, if_true]
   constructor
   ·intro h3; omega
   ·rintro ⟨_, h3⟩; cases h3
def opnP (R : List Int) (c : Int) : Bool := decide (c = R.getD 0 0) || (decide (c = R.getD 3 0) || (decide (c = R.getD 6 0) || (decide (c = R.getD 11 0) || !decide (c ∈ R))))
def opnB (R : List Int) (c : Int) : Bool := allTo (fun k => !(decide (c = R.getD k 0) && !rlM k)) 15
theorem opn_eq {R : List Int} (hl : R.length = 15) (hd : allTo (dsR R) 15 = true) (c : Int) : opnP R c = opnB R c := by
 have hne : ∀ i j, i < j → j < 15 → R.getD i 0 ≠ R.getD j 0 := fun i j hij hj => dsR_is.1 (allTo_is.1 hd j hj) i hij
 have hne2 : ∀ i j, i < 15 → j < 15 → R.getD i 0 = R.getD j 0 → i = j := fun i j hi hj e => by
  rcases Nat.lt_trichotomy i j with h | h | h
  ·exact absurd e (hne i j h hj)
  ·exact h
  ·exact absurd e.symm (hne j i h hi)
 have hM : ∀ k, k < 15 → ((!rlM k) = false ↔ k = 0 ∨ k = 3 ∨ k = 6 ∨ k = 11) := by
  intro k hk
  match k, hk with
  | 0, _ | 1, _ | 2, _ | 3, _ | 4, _ | 5, _ | 6, _ | 7, _ | 8, _ | 9, _ | 10, _ | 11, _ | 12, _ | 13, _ | 14, _ => decide
 have hmem : c ∈ R ↔ ∃ k, k < 15 ∧ c = R.getD k 0 := by
  constructor
  ·intro h
   obtain ⟨i, hi, e⟩ := mem_getD_acc (d := (0 : Int)) h
   exact ⟨i, by omega, e.symm⟩
  ·rintro ⟨k, hk, e⟩
   rw [e]; exact getD_mem_acc (by omega)
 rw [Bool.eq_iff_iff]
 unfold opnP opnB
 rw [allTo_is]
 simp only [Bool.or_eq_true, decide_eq_true_eq, Bool.not_eq_true', decide_eq_false_iff_not, Bool.and_eq_false_iff]
 constructor
 ·intro h k hk
  by_cases hc : c = R.getD k 0
  ·refine .inr ((hM k hk).2 ?_)
   rcases h with h | h | h | h | h
   ·exact .inl (hne2 k 0 hk (by omega) (hc.symm.trans h))
   ·exact .inr (.inl (hne2 k 3 hk (by omega) (hc.symm.trans h)))
   ·exact .inr (.inr (.inl (hne2 k 6 hk (by omega) (hc.symm.trans h))))
   ·exact .inr (.inr (.inr (hne2 k 11 hk (by omega) (hc.symm.trans h))))
   ·exact absurd (hmem.2 ⟨k, hk, hc⟩) h
  ·exact .inl hc
 ·intro h
  by_cases hm : c ∈ R
  ·obtain ⟨k, hk, e⟩ := hmem.1 hm
   rcases h k hk with h1 | h1
   ·exact absurd e h1
   ·rcases (hM k hk).1 h1 with rfl | rfl | rfl | rfl
    ·exact .inl e
    ·exact .inr (.inl e)
    ·exact .inr (.inr (.inl e))
    ·exact .inr (.inr (.inr (.inl e)))
  ·exact .inr (.inr (.inr (.inr hm)))
open Go.RowKit
structure Grp where
 cur : ByteArray
 cy : Int
 cm : Int
 cp : Int
 A : Option Addr
 n : Nat
 c : Nat
 r0 : Int
 r1 : Int
 r2 : Int
 r3 : Int
 r4 : Int
 r5 : Int
 r6 : Int
 r7 : Int
 r8 : Int
 r9 : Int
 r10 : Int
 r11 : Int
 r12 : Int
 r13 : Int
 r14 : Int
 E : Option Addr
 m : Nat
 d : Nat
abbrev grpV (g : Grp) : Value := .agg #[.string g.cur, .int .i64 g.cy, .int .i64 g.cm, .int .i64 g.cp, .slice g.A g.n g.c, .int .i64 g.r0, .int .i64 g.r1, .int .i64 g.r2, .int .i64 g.r3, .int .i64 g.r4, .int .i64 g.r5, .int .i64 g.r6, .int .i64 g.r7, .int .i64 g.r8, .int .i64 g.r9, .int .i64 g.r10, .int .i64 g.r11, .int .i64 g.r12, .int .i64 g.r13, .int .i64 g.r14, .slice g.E g.m g.d]
abbrev rolV (g : Grp) : Value := .agg #[.int .i64 g.r0, .int .i64 g.r1, .int .i64 g.r2, .int .i64 g.r3, .int .i64 g.r4, .int .i64 g.r5, .int .i64 g.r6, .int .i64 g.r7, .int .i64 g.r8, .int .i64 g.r9, .int .i64 g.r10, .int .i64 g.r11, .int .i64 g.r12, .int .i64 g.r13, .int .i64 g.r14]
def Grp.R (g : Grp) : List Int := [g.r0, g.r1, g.r2, g.r3, g.r4, g.r5, g.r6, g.r7, g.r8, g.r9, g.r10, g.r11, g.r12, g.r13, g.r14]
theorem R_len (g : Grp) : g.R.length = 15 := rfl
structure GB (w : World) (b : Nat) (g : Grp) : Prop where
 c0 : w.cell? ⟨b, 0, none⟩ = some (.string g.cur)
 c1 : w.cell? ⟨b, 1, none⟩ = some (.int .i64 g.cy)
 c2 : w.cell? ⟨b, 2, none⟩ = some (.int .i64 g.cm)
 c3 : w.cell? ⟨b, 3, none⟩ = some (.int .i64 g.cp)
 c4 : w.cell? ⟨b, 4, none⟩ = some (.slice g.A g.n g.c)
 c5 : w.cell? ⟨b, 5, none⟩ = some (.int .i64 g.r0)
 c6 : w.cell? ⟨b, 6, none⟩ = some (.int .i64 g.r1)
 c7 : w.cell? ⟨b, 7, none⟩ = some (.int .i64 g.r2)
 c8 : w.cell? ⟨b, 8, none⟩ = some (.int .i64 g.r3)
 c9 : w.cell? ⟨b, 9, none⟩ = some (.int .i64 g.r4)
 c10 : w.cell? ⟨b, 10, none⟩ = some (.int .i64 g.r5)
 c11 : w.cell? ⟨b, 11, none⟩ = some (.int .i64 g.r6)
 c12 : w.cell? ⟨b, 12, none⟩ = some (.int .i64 g.r7)
 c13 : w.cell? ⟨b, 13, none⟩ = some (.int .i64 g.r8)
 c14 : w.cell? ⟨b, 14, none⟩ = some (.int .i64 g.r9)
 c15 : w.cell? ⟨b, 15, none⟩ = some (.int .i64 g.r10)
 c16 : w.cell? ⟨b, 16, none⟩ = some (.int .i64 g.r11)
 c17 : w.cell? ⟨b, 17, none⟩ = some (.int .i64 g.r12)
 c18 : w.cell? ⟨b, 18, none⟩ = some (.int .i64 g.r13)
 c19 : w.cell? ⟨b, 19, none⟩ = some (.int .i64 g.r14)
 c20 : w.cell? ⟨b, 20, none⟩ = some (.slice g.E g.m g.d)
 lt : b < w.heap.size
section
variable {w w' : World} {b : Nat} {g : Grp} {e : Ent}
theorem GB.up (h : GB w b g) (hb : Below w.heap.size w w') : GB w' b g :=
 ⟨(hb.cell (p := ⟨b, 0, none⟩) h.lt).trans h.c0, (hb.cell (p := ⟨b, 1, none⟩) h.lt).trans h.c1, (hb.cell (p := ⟨b, 2, none⟩) h.lt).trans h.c2, (hb.cell (p := ⟨b, 3, none⟩) h.lt).trans h.c3, (hb.cell (p := ⟨b, 4, none⟩) h.lt).trans h.c4, (hb.cell (p := ⟨b, 5, none⟩) h.lt).trans h.c5, (hb.cell (p := ⟨b, 6, none⟩) h.lt).trans h.c6, (hb.cell (p := ⟨b, 7, none⟩) h.lt).trans h.c7, (hb.cell (p := ⟨b, 8, none⟩) h.lt).trans h.c8, (hb.cell (p := ⟨b, 9, none⟩) h.lt).trans h.c9, (hb.cell (p := ⟨b, 10, none⟩) h.lt).trans h.c10, (hb.cell (p := ⟨b, 11, none⟩) h.lt).trans h.c11, (hb.cell (p := ⟨b, 12, none⟩) h.lt).trans h.c12, (hb.cell (p := ⟨b, 13, none⟩) h.lt).trans h.c13, (hb.cell (p := ⟨b, 14, none⟩) h.lt).trans h.c14, (hb.cell (p := ⟨b, 15, none⟩) h.lt).trans h.c15, (hb.cell (p := ⟨b, 16, none⟩) h.lt).trans h.c16, (hb.cell (p := ⟨b, 17, none⟩) h.lt).trans h.c17, (hb.cell (p := ⟨b, 18, none⟩) h.lt).trans h.c18, (hb.cell (p := ⟨b, 19, none⟩) h.lt).trans h.c19, (hb.cell (p := ⟨b, 20, none⟩) h.lt).trans h.c20, Nat.lt_of_lt_of_le h.lt hb.size⟩
theorem GB.blk (h : GB w b g) (hk : w'.heap[b]? = w.heap[b]?) : GB w' b g := by
 have e : ∀ i, w'.cell? ⟨b, i, none⟩ = w.cell? ⟨b, i, none⟩ := fun i => by simp only [World.cell?, hk]
 refine ⟨(e 0).trans h.c0, (e 1).trans h.c1, (e 2).trans h.c2, (e 3).trans h.c3, (e 4).trans h.c4, (e 5).trans h.c5, (e 6).trans h.c6, (e 7).trans h.c7, (e 8).trans h.c8, (e 9).trans h.c9, (e 10).trans h.c10, (e 11).trans h.c11, (e 12).trans h.c12, (e 13).trans h.c13, (e 14).trans h.c14, (e 15).trans h.c15, (e 16).trans h.c16, (e 17).trans h.c17, (e 18).trans h.c18, (e 19).trans h.c19, (e 20).trans h.c20, ?_⟩
 have h1 := h.lt
 rcases Nat.lt_or_ge b w'.heap.size with h2 | h2
 ·exact h2
 ·rw [Array.getElem?_eq_none h2, Array.getElem?_eq_getElem h1] at hk; cases hk
theorem gb_new (w : World) (t : TypeId) (g : Grp) : GB (w.alloc (.cells #[.string g.cur, .int .i64 g.cy, .int .i64 g.cm, .int .i64 g.cp, .slice g.A g.n g.c, .int .i64 g.r0, .int .i64 g.r1, .int .i64 g.r2, .int .i64 g.r3, .int .i64 g.r4, .int .i64 g.r5, .int .i64 g.r6, .int .i64 g.r7, .int .i64 g.r8, .int .i64 g.r9, .int .i64 g.r10, .int .i64 g.r11, .int .i64 g.r12, .int .i64 g.r13, .int .i64 g.r14, .slice g.E g.m g.d] t)) w.heap.size g := by
 constructor
 case lt => simp
 all_goals (simp only [World.cell?]; rw [heap_alloc_new]; rfl)
abbrev eV (e : Ent) : Value := .agg #[.string e.nm, .string e.cur, .slice e.A e.n e.c, .slice e.B e.m e.d, .bool e.jt]
structure GrK (w : World) (g : Grp) (L : List Acc) (G : List Ent) : Prop where
 ln : L.length = g.n
 lg : G.length = g.m
 hz : AccAt w g.A L
 he : EntsAt w g.E G
 hk : EntsK w G
theorem GrK.up {L : List Acc} {G : List Ent} (h : GrK w g L G) (hb : Below w.heap.size w w') : GrK w' g L G := ⟨h.ln, h.lg, h.hz.up hb, h.he.up hb, h.hk.up hb⟩
end
structure GrW (g : Grp) (L : List Acc) (G : List Ent) : Prop where
 cur : g.cur.size ≤ maxLen
 rol : ∀ x ∈ g.R, (Lit.int .i64 x).wf = true
 txt : ∀ e ∈ G, e.nm.size ≤ maxLen ∧ e.cur.size ≤ maxLen
structure Sm (g : Grp) (G : List Ent) : Prop where
 n : g.n ≤ 60
 m : g.m ≤ 14
 e : ∀ e ∈ G, e.n ≤ 60 ∧ e.m ≤ 60
theorem ent_at {w : World} {X : Option Addr} {G : List Ent} (h : EntsAt w X G) {k : Nat} (hk : k < G.length) : ∃ b off, X = some ⟨b, off, none⟩ ∧ b < w.heap.size ∧ E5 w b (off + k * 5) (G.getD k ent0) := by
 obtain ⟨b, off, e, hlt, hc⟩ := h (by omega)
 exact ⟨b, off, e, hlt, hc k hk⟩
def dsN (G : List Ent) (i : Nat) : Bool := allTo (fun k => !decide ((G.getD k ent0).nm = (G.getD i ent0).nm)) i
def fix (G : List Ent) (nm : ByteArray) : Nat := G.findIdx fun e => decide (e.nm = nm)
theorem fix_at {G : List Ent} {nm : ByteArray} {k : Nat} (hk : k < G.length) (h0 : ∀ j, j < k → (G.getD j ent0).nm ≠ nm) (h : (G.getD k ent0).nm = nm) : fix G nm = k := by
 unfold fix
 rw [List.findIdx_eq hk]
 refine ⟨?_, fun j hj => ?_⟩
 ·rw [List.getD_eq_getElem?_getD, List.getElem?_eq_getElem hk] at h
  simpa using h
 ·have := h0 j hj
  rw [List.getD_eq_getElem?_getD, List.getElem?_eq_getElem (by omega)] at this
  simpa using this
theorem fix_no {G : List Ent} {nm : ByteArray} (h0 : ∀ j, j < G.length → (G.getD j ent0).nm ≠ nm) : fix G nm = G.length := by
 unfold fix
 rw [List.findIdx_eq_length]
 intro e he
 obtain ⟨i, hi, rfl⟩ := mem_getD_acc (d := ent0) he
 simpa using h0 i hi
theorem dsN_is {G : List Ent} {i : Nat} : dsN G i = true ↔ ∀ k, k < i → (G.getD k ent0).nm ≠ (G.getD i ent0).nm := by
 unfold dsN
 rw [allTo_is]
 exact ⟨fun h k hk => by have := h k hk; simpa using this, fun h k hk => by have := h k hk; simpa using this⟩
theorem fix_ds {G : List Ent} {i : Nat} (hi : i < G.length) : fix G (G.getD i ent0).nm = i ↔ dsN G i = true := by
 rw [dsN_is]
 constructor
 ·intro h k hk e
  have h2 : k < G.findIdx fun e => decide (e.nm = (G.getD i ent0).nm) := by show k < fix G _; omega
  have h3 := List.not_of_lt_findIdx h2
  rw [List.getD_eq_getElem?_getD, List.getElem?_eq_getElem (by omega)] at e
  simp only [Option.getD_some] at e
  simp [e] at h3
 ·intro h
  exact fix_at hi h rfl
theorem gb_range {w : World} {b : Nat} {g : Grp} (h : GB w b g) : w.rangeAt b 0 [.string g.cur, .int .i64 g.cy, .int .i64 g.cm, .int .i64 g.cp, .slice g.A g.n g.c, .int .i64 g.r0, .int .i64 g.r1, .int .i64 g.r2, .int .i64 g.r3, .int .i64 g.r4, .int .i64 g.r5, .int .i64 g.r6, .int .i64 g.r7, .int .i64 g.r8, .int .i64 g.r9, .int .i64 g.r10, .int .i64 g.r11, .int .i64 g.r12, .int .i64 g.r13, .int .i64 g.r14, .slice g.E g.m g.d] := by
 intro j v hv
 rw [Nat.zero_add]
 match j, hv with
 | 0, hv => injection hv with hv; rw [← hv]; exact h.c0
 | 1, hv => injection hv with hv; rw [← hv]; exact h.c1
 | 2, hv => injection hv with hv; rw [← hv]; exact h.c2
 | 3, hv => injection hv with hv; rw [← hv]; exact h.c3
 | 4, hv => injection hv with hv; rw [← hv]; exact h.c4
 | 5, hv => injection hv with hv; rw [← hv]; exact h.c5
 | 6, hv => injection hv with hv; rw [← hv]; exact h.c6
 | 7, hv => injection hv with hv; rw [← hv]; exact h.c7
 | 8, hv => injection hv with hv; rw [← hv]; exact h.c8
 | 9, hv => injection hv with hv; rw [← hv]; exact h.c9
 | 10, hv => injection hv with hv; rw [← hv]; exact h.c10
 | 11, hv => injection hv with hv; rw [← hv]; exact h.c11
 | 12, hv => injection hv with hv; rw [← hv]; exact h.c12
 | 13, hv => injection hv with hv; rw [← hv]; exact h.c13
 | 14, hv => injection hv with hv; rw [← hv]; exact h.c14
 | 15, hv => injection hv with hv; rw [← hv]; exact h.c15
 | 16, hv => injection hv with hv; rw [← hv]; exact h.c16
 | 17, hv => injection hv with hv; rw [← hv]; exact h.c17
 | 18, hv => injection hv with hv; rw [← hv]; exact h.c18
 | 19, hv => injection hv with hv; rw [← hv]; exact h.c19
 | 20, hv => injection hv with hv; rw [← hv]; exact h.c20
 | j + 21, hv => simp at hv
theorem gb_load {w : World} {b : Nat} {g : Grp} (h : GB w b g) : (Instr.loadAt 29 (.pointer (some ⟨b, 0, none⟩))).run Tryz.prog w = .ok (grpV g) w :=
 run_loadAt_mid w b 0 29 _ _ (gb_range h) Tryz.underlying29 rfl (by kernel_rfl)
theorem gb_roles {w : World} {b : Nat} {g : Grp} (h : GB w b g) : (Instr.loadAt 26 (.pointer (some ⟨b, 5, none⟩))).run Tryz.prog w = .ok (rolV g) w :=
 run_loadAt_mid w b 5 26 [.int .i64 g.r0, .int .i64 g.r1, .int .i64 g.r2, .int .i64 g.r3, .int .i64 g.r4, .int .i64 g.r5, .int .i64 g.r6, .int .i64 g.r7, .int .i64 g.r8, .int .i64 g.r9, .int .i64 g.r10, .int .i64 g.r11, .int .i64 g.r12, .int .i64 g.r13, .int .i64 g.r14] _ (fun j v hv => by
  have hj : j < 15 := by
   rcases Nat.lt_or_ge j 15 with hj | hj
   ·exact hj
   ·rw [List.getElem?_eq_none (by simpa using hj)] at hv; cases hv
  have h1 := gb_range h (5 + j) v (by
   have e : ([.string g.cur, .int .i64 g.cy, .int .i64 g.cm, .int .i64 g.cp, .slice g.A g.n g.c, .int .i64 g.r0, .int .i64 g.r1, .int .i64 g.r2, .int .i64 g.r3, .int .i64 g.r4, .int .i64 g.r5, .int .i64 g.r6, .int .i64 g.r7, .int .i64 g.r8, .int .i64 g.r9, .int .i64 g.r10, .int .i64 g.r11, .int .i64 g.r12, .int .i64 g.r13, .int .i64 g.r14, .slice g.E g.m g.d] : List Value)[5 + j]? = ([.int .i64 g.r0, .int .i64 g.r1, .int .i64 g.r2, .int .i64 g.r3, .int .i64 g.r4, .int .i64 g.r5, .int .i64 g.r6, .int .i64 g.r7, .int .i64 g.r8, .int .i64 g.r9, .int .i64 g.r10, .int .i64 g.r11, .int .i64 g.r12, .int .i64 g.r13, .int .i64 g.r14] : List Value)[j]? := by
    match j, hj with
    | 0, _ | 1, _ | 2, _ | 3, _ | 4, _ | 5, _ | 6, _ | 7, _ | 8, _ | 9, _ | 10, _ | 11, _ | 12, _ | 13, _ | 14, _ => rfl
   rw [e]; exact hv)
  rw [Nat.zero_add] at h1
  exact h1) Tryz.underlying26 rfl (by kernel_rfl)
theorem wpList_load_is {P : Program} {w : World} {ops : Array Oper} {rest : List Oper} {o : Oper} {a : Act} {Q : Exit → Act → World → Prop} (hg : o.guard = none) (ty : TypeId) (x : Operand) (hop : o.op = .load ty x) (p : Value) (hx : a.eval x = p) (V : Value)
  (hl : (Instr.loadAt ty p).run P w = .ok V w) (h : wpList P ops Q rest (a.put o.dst V) w) : wpList P ops Q (o :: rest) a w := by
 refine wpList_plain hg fun K hK => ?_
 unfold Oper.wp execOp
 simp only [hop, hx, Sem.run_bind, hl, Sem.run_pure, Result.andThen_ok]
 exact hK _ _ h
theorem gb_lV {w : World} {b : Nat} {g : Grp} {V : Value} (h : GB w b g) (hV : V = grpV g) : (Instr.loadAt 29 (.pointer (some ⟨b, 0, none⟩))).run Tryz.prog w = .ok V w := hV ▸ gb_load h
theorem wpList_load_if {P : Program} {w : World} {ops : Array Oper} {rest : List Oper} {o : Oper} {a : Act} {Q : Exit → Act → World → Prop} (hw : Region.wanted o (yielded ops a.tmps) = true) (ty : TypeId) (x : Operand) (hop : o.op = .load ty x) (p : Value) (hx : a.eval x = p) (V : Value)
  (hl : (Instr.loadAt ty p).run P w = .ok V w) (h : wpList P ops Q rest (a.put o.dst V) w) : wpList P ops Q (o :: rest) a w := by
 refine wpList_step fun K hK => ?_
 rw [hw, if_pos rfl]
 unfold Oper.wp execOp
 simp only [hop, hx, Sem.run_bind, hl, Sem.run_pure, Result.andThen_ok]
 exact hK _ _ h
open Go.RowKit
structure Ety where
 id : Int
 ent : Int
 day : Int
 kind : Int
 of_ : Int
 txt : ByteArray
 A : Option Addr
 n : Nat
 c : Nat
def grpC (g : Grp) : List Value := [.string g.cur, .int .i64 g.cy, .int .i64 g.cm, .int .i64 g.cp, .slice g.A g.n g.c, .int .i64 g.r0, .int .i64 g.r1, .int .i64 g.r2, .int .i64 g.r3, .int .i64 g.r4, .int .i64 g.r5, .int .i64 g.r6, .int .i64 g.r7, .int .i64 g.r8, .int .i64 g.r9, .int .i64 g.r10, .int .i64 g.r11, .int .i64 g.r12, .int .i64 g.r13, .int .i64 g.r14, .slice g.E g.m g.d]
def etyC (x : Ety) : List Value := [.int .i64 x.id, .int .i64 x.ent, .int .i64 x.day, .int .i64 x.kind, .int .i64 x.of_, .string x.txt, .slice x.A x.n x.c]
abbrev etyV (x : Ety) : Value := .agg #[.int .i64 x.id, .int .i64 x.ent, .int .i64 x.day, .int .i64 x.kind, .int .i64 x.of_, .string x.txt, .slice x.A x.n x.c]
theorem grpV_is (g : Grp) : grpV g = .agg (grpC g).toArray := rfl
theorem etyV_is (x : Ety) : etyV x = .agg (etyC x).toArray := rfl
structure Rg (w : World) (b : Nat) (cs : List Value) : Prop where
 cell : ∀ j v, cs[j]? = some v → w.cell? ⟨b, j, none⟩ = some v
 lt : b < w.heap.size
theorem Rg.load {P : Program} {w : World} {b : Nat} {cs : List Value} (h : Rg w b cs) (off : Nat) (ty : TypeId) (sub : List Value) (hs : sub = (cs.drop off).take sub.length) (d : TypeDesc) (hu : P.underlying ty = some d) (hd : d.isRow = true) (hi : (P.info? ty).map (·.size) = some sub.length) :
  (Instr.loadAt ty (.pointer (some ⟨b, off, none⟩))).run P w = .ok (.agg sub.toArray) w :=
 run_loadAt_mid w b off ty sub d (fun j v hj => h.cell _ _ (by
  rw [hs, List.getElem?_take] at hj
  split at hj
  ·rwa [List.getElem?_drop] at hj
  ·cases hj)) hu hd hi
theorem wpList_build_is {P : Program} {w : World} {ops : Array Oper} {rest : List Oper} {o : Oper} {a : Act} {Q : Exit → Act → World → Prop} (hg : o.guard = none) (ty : TypeId) (ps : Array (Nat × Operand)) (hop : o.op = .build ty ps) (L : List (Nat × Value)) (hL : (ps.toList.map fun p => (p.1, a.eval p.2)) = L) (V : Value)
  (hl : (Instr.build ty L.toArray).run P w = .ok V w) (h : wpList P ops Q rest (a.put o.dst V) w) : wpList P ops Q (o :: rest) a w := by
 refine wpList_plain hg fun K hK => ?_
 have he : (ps.map fun p => (p.1, a.eval p.2)) = L.toArray := by rw [← hL]; exact Array.ext' (by rw [Array.toList_map])
 have hl2 : (Instr.build ty (ps.map fun x => match x with | (i, x) => (i, a.eval x))).run P w = .ok V w := by
  rw [← he] at hl; exact hl
 unfold Oper.wp execOp
 simp only [hop, Sem.run_bind, hl2, Sem.run_pure, Result.andThen_ok]
 exact hK _ _ h
theorem ghasb_any (a : Acc) (w : World) : Calls Tryz.prog 144 #[accV a] w fun e w' => e = .returned (.bool (pbsB a)) ∧ Below w.heap.size w w' := by
 have hB := below_alloc_new (w := w) (.cells #[.int .i64 a.code, .int .i64 a.kind, .int .i64 a.basis, .int .i64 a.par] 151)
 obtain ⟨⟨c0, c1, c2, c3⟩, lt, -⟩ := ab_new w 151 a
 simp only [Nat.zero_add] at c1 c2 c3
 have e2 : (a.basis == 2) = decide (a.basis = 2) := rfl
 have e3 : (a.basis == 3) = decide (a.basis = 3) := rfl
 have e1 : (a.basis == 1) = decide (a.basis = 1) := rfl
 have f2 : (a.basis != 2) = !decide (a.basis = 2) := rfl
 unfold pbsB
 generalize decide (a.basis = 1) = q1 at *
 generalize decide (a.basis = 2) = q2 at *
 generalize decide (a.basis = 3) = q3 at *
 by_cases k1 : a.kind = 1
 ·have g1 : (a.kind == 1) = true := by simp [k1]
  rw [if_pos (.inl k1)]
  clear k1
  go_enter Tryz.func144, Tryz.ntmps144
  go_wp2_with fail
  go_ret
  exact ⟨rfl, hB⟩
 have g1 : (a.kind == 1) = false := by simp [k1]
 by_cases k2 : a.kind = 2
 ·have g2 : (a.kind == 2) = true := by simp [k2]
  rw [if_pos (.inr k2)]
  clear k1 k2
  go_enter Tryz.func144, Tryz.ntmps144
  go_wp2_with fail
  go_ret
  exact ⟨rfl, hB⟩
 have g2 : (a.kind == 2) = false := by simp [k2]
 rw [if_neg (by omega)]
 clear k1 k2
 by_cases k3 : a.kind = 3
 ·have g3 : (a.kind == 3) = true := by simp [k3]
  rw [if_pos k3]
  clear k3
  go_enter Tryz.func144, Tryz.ntmps144
  go_wp2_with fail
  go_ret
  exact ⟨rfl, hB⟩
 ·have g3 : (a.kind == 3) = false := by simp [k3]
  rw [if_neg k3]
  clear k3
  go_enter Tryz.func144, Tryz.ntmps144
  go_wp2_with fail
  go_ret
  exact ⟨rfl, hB⟩
theorem rbas_any (a : Acc) (w : World) : Calls Tryz.prog 123 #[accV a] w fun e w' => e = .returned (.bool (basB a)) ∧ Below w.heap.size w w' := by
 have hB := below_alloc_new (w := w) (.cells #[.int .i64 a.code, .int .i64 a.kind, .int .i64 a.basis, .int .i64 a.par] 151)
 obtain ⟨⟨c0, c1, c2, c3⟩, lt, -⟩ := ab_new w 151 a
 simp only [Nat.zero_add] at c1 c2 c3
 have e2 : (a.basis == 2) = decide (a.basis = 2) := rfl
 have e3 : (a.basis == 3) = decide (a.basis = 3) := rfl
 have e1 : (a.basis == 1) = decide (a.basis = 1) := rfl
 have f2 : (a.basis != 2) = !decide (a.basis = 2) := rfl
 unfold basB
 generalize decide (a.basis = 1) = q1 at *
 generalize decide (a.basis = 2) = q2 at *
 generalize decide (a.basis = 3) = q3 at *
 by_cases k1 : a.kind = 1
 ·have g1 : (a.kind == 1) = true := by simp [k1]
  rw [if_pos (.inl k1)]
  clear k1
  cases q1
  ·go_enter Tryz.func123, Tryz.ntmps123
   go_wp2_with fail
   go_ret
   exact ⟨rfl, hB⟩
  ·go_enter Tryz.func123, Tryz.ntmps123
   go_wp2_with fail
   go_ret
   exact ⟨rfl, hB⟩
 have g1 : (a.kind == 1) = false := by simp [k1]
 by_cases k2 : a.kind = 2
 ·have g2 : (a.kind == 2) = true := by simp [k2]
  rw [if_pos (.inr k2)]
  clear k1 k2
  cases q1
  ·go_enter Tryz.func123, Tryz.ntmps123
   go_wp2_with fail
   go_ret
   exact ⟨rfl, hB⟩
  ·go_enter Tryz.func123, Tryz.ntmps123
   go_wp2_with fail
   go_ret
   exact ⟨rfl, hB⟩
 have g2 : (a.kind == 2) = false := by simp [k2]
 rw [if_neg (by omega)]
 clear k1 k2
 by_cases k3 : a.kind = 3
 ·have g3 : (a.kind == 3) = true := by simp [k3]
  rw [if_pos k3]
  clear k3
  go_enter Tryz.func123, Tryz.ntmps123
  go_wp2_with fail
  go_ret
  exact ⟨rfl, hB⟩
 ·have g3 : (a.kind == 3) = false := by simp [k3]
  rw [if_neg k3]
  clear k3
  go_enter Tryz.func123, Tryz.ntmps123
  go_wp2_with fail
  go_ret
  exact ⟨rfl, hB⟩
theorem chaB_no {L : List Acc} {k : Nat} (hk : k < L.length) (h : basB (L.getD k acc0) = false) : chaB L = false := by
 unfold chaB
 rw [show L.all basB = false from List.all_eq_false.2 ⟨_, getD_mem_acc hk, by rw [h]; simp⟩]; simp
theorem chaB_end {L : List Acc} (hv : vB L true = true) (h : allTo (fun i => basB (L.getD i acc0)) L.length = true) : chaB L = true := by
 unfold chaB
 rw [hv, show L.all basB = true from all_getD.2 (allTo_is.1 h)]; rfl
set_option maxRecDepth 20000 in
set_option maxHeartbeats 1600000 in
theorem gcha_any (A : Option Addr) (cp : Nat) (L : List Acc) (w : World) (hz : AccAt w A L) (hl : L.length ≤ 1000) :
  Calls Tryz.prog 111 #[.slice A L.length cp] w fun e w' => e = .returned (.bool (chaB L)) ∧ Below w.heap.size w w' := by
 have hB := Below.refl w.heap.size w
 have h1 := fun w h => cvalid8_any A cp L true w h hl
 have hno := fun k => chaB_no (L := L) (k := k)
 have hend := chaB_end (L := L)
 cases hv : vB L true
 ·have E : Hid (chaB L = false) := Lib.hid (by unfold chaB; rw [hv]; rfl)
  rw [hv] at h1
  have H1 := Lib.hid h1
  have HZ := Lib.hid hz
  generalize L.length = n at *
  clear h1 hno hend hz hv
  go_enter Tryz.func111, Tryz.ntmps111
  go_wp2_with (go_at_call 143; refine (H1.out _ HZ.out).mono ?_; rintro e w1 ⟨rfl, hb⟩; replace hB := below_more hB hb; clear hb)
  go_ret
  exact ⟨by rw [E.out]; rfl, hB⟩
 have hkin := vB_kin hv
 have hpk : ∀ k, k < L.length → pbsB (L.getD k acc0) = basB (L.getD k acc0) := fun k hk => bas_eq (hkin _ (getD_mem_acc hk))
 replace hend := hend hv
 rw [hv] at h1
 obtain ⟨P, hP⟩ : ∃ P : Nat → Bool, (fun i => basB (L.getD i acc0)) = P := ⟨_, rfl⟩
 have hPk : ∀ k, basB (L.getD k acc0) = P k := fun k => by rw [← hP]
 rw [hP] at hend
 simp only [hPk] at hno hpk
 obtain ⟨n, hn⟩ : ∃ n, L.length = n := ⟨_, rfl⟩
 obtain ⟨s0, hs0⟩ : ∃ s0, w.heap.size = s0 := ⟨_, rfl⟩
 rw [hn] at hl h1 hno hend hpk ⊢
 rw [hs0] at hB ⊢
 have HN := Lib.hid hn
 have HZ := Lib.hid hz
 have H1 := Lib.hid h1
 have HNo := Lib.hid hno
 have HE := Lib.hid hend
 have HPK := Lib.hid hpk
 have HS0 := Lib.hid hs0
 clear hn hz h1 hno hend hpk hP hPk hv hkin
 go_enter Tryz.func111, Tryz.ntmps111
 go_wp2_with (go_at_call 143; refine (H1.out _ HZ.out).mono ?_; rintro e w1 ⟨rfl, hb⟩; replace hB := hB.trans (hb.mono (by rw [← HS0.out]; exact Nat.le_refl _)); clear hb)
 clear hs0
 go_loopg [10] n (fun kx s10 wr => ∃ k : Nat, s10 = .int .i64 k ∧ k ≤ n ∧ n - k ≤ kx ∧ Hid (allTo P k = true) ∧ Below s0 w wr)
 case atStart => exact ⟨0, rfl, by omega, by omega, Lib.hid rfl, hB⟩
 case round =>
  clear hB
  obtain ⟨k, rfl, hk, hkx, HA, hB⟩ := hrel
  by_cases hlt : k < n
  ·have hltz : (k : Int) < (n : Int) := by omega
   have hsz : s0 ≤ wr.heap.size := by have := hB.size; have := HS0.out; omega
   obtain ⟨b, off, rfl, hbw, hcs⟩ := HZ.out (by rw [HN.out]; omega)
   obtain ⟨c0, c1, c2, c3⟩ := (hcs k (by rw [HN.out]; exact hlt)).up hB (by have := HS0.out; omega)
   have hpk := HPK.out k hlt
   have hno := HNo.out k hlt
   obtain ⟨x, hx⟩ : ∃ x, L.getD k acc0 = x := ⟨_, rfl⟩
   rw [hx] at c0 c1 c2 c3 hpk
   have hX := ab_new wr 151 x
   have hB1 : Below s0 w (wr.alloc (.cells #[.int .i64 x.code, .int .i64 x.kind, .int .i64 x.basis, .int .i64 x.par] 151)) := hB.alloc hsz _
   obtain ⟨⟨z0, z1, z2, z3⟩, zlt, -⟩ := hX
   simp only [Nat.zero_add] at z1 z2 z3
   have hb := fun w => ghasb_any x w
   rw [hpk] at hb
   have hs2 : s0 ≤ (wr.alloc (.cells #[.int .i64 x.code, .int .i64 x.kind, .int .i64 x.basis, .int .i64 x.par] 151)).heap.size := by simp; omega
   have HS2 := Lib.hid hs2
   have HA2 := fun (h : P k = true) => Lib.hid (show allTo P (k + 1) = true by show (allTo P k && P k) = true; rw [HA.out, h]; rfl)
   generalize P k = q at *
   have HB := Lib.hid hb
   clear hx hcs hpk hb hs2 HA
   cases q
   ·have HR := Lib.hid (hno rfl)
    clear hno HA2
    go_wp2_with (go_at_call 144; refine (HB.out _).mono ?_; rintro e w2 ⟨rfl, hb⟩; have hB2 := hB1.trans (hb.mono HS2.out); clear hb)
    go_ret
    exact ⟨by rw [HR.out]; rfl, hB2⟩
   ·have HA3 := HA2 rfl
    clear hno HA2
    go_wp2_with (go_at_call 144; refine (HB.out _).mono ?_; rintro e w2 ⟨rfl, hb⟩; have hB2 := hB1.trans (hb.mono HS2.out); clear hb)
    go_roundg (n - (k + 1))
    case measure => omega
    case rel => exact ⟨k + 1, by go_num, by omega, by omega, HA3, hB2⟩
  ·obtain rfl : k = n := by omega
   have hltz : ¬ (k : Int) < (k : Int) := by omega
   have HR := Lib.hid (HE.out HA.out)
   go_wp2_with fail
   go_ret
   exact ⟨by rw [HR.out]; rfl, hB⟩
set_option maxRecDepth 20000 in
set_option maxHeartbeats 1600000 in
theorem gacct_any (g : Grp) (L : List Acc) (c : Int) (w : World) (hz : AccAt w g.A L) (ln : L.length = g.n) (hl : g.n ≤ 1000) :
  Calls Tryz.prog 146 #[grpV g, .int .i64 c] w fun e w' => e = .returned (.tuple #[accV (fndA L c), .bool (fnd L c).isSome]) ∧ Below w.heap.size w w' := by
 have hB1 := below_alloc_new (w := w) (.cells #[.string g.cur, .int .i64 g.cy, .int .i64 g.cm, .int .i64 g.cp, .slice g.A g.n g.c, .int .i64 g.r0, .int .i64 g.r1, .int .i64 g.r2, .int .i64 g.r3, .int .i64 g.r4, .int .i64 g.r5, .int .i64 g.r6, .int .i64 g.r7, .int .i64 g.r8, .int .i64 g.r9, .int .i64 g.r10, .int .i64 g.r11, .int .i64 g.r12, .int .i64 g.r13, .int .i64 g.r14, .slice g.E g.m g.d] 29)
 have hB := below_new hB1 (.cells #[.int .i64 acc0.code, .int .i64 acc0.kind, .int .i64 acc0.basis, .int .i64 acc0.par] 151)
 have hG := (gb_new w 29 g).up (below_alloc_new (.cells #[.int .i64 acc0.code, .int .i64 acc0.kind, .int .i64 acc0.basis, .int .i64 acc0.par] 151))
 have hA := ab_new (w.alloc (.cells #[.string g.cur, .int .i64 g.cy, .int .i64 g.cm, .int .i64 g.cp, .slice g.A g.n g.c, .int .i64 g.r0, .int .i64 g.r1, .int .i64 g.r2, .int .i64 g.r3, .int .i64 g.r4, .int .i64 g.r5, .int .i64 g.r6, .int .i64 g.r7, .int .i64 g.r8, .int .i64 g.r9, .int .i64 g.r10, .int .i64 g.r11, .int .i64 g.r12, .int .i64 g.r13, .int .i64 g.r14, .slice g.E g.m g.d] 29)) 151 acc0
 have e1 : (w.alloc (.cells #[.string g.cur, .int .i64 g.cy, .int .i64 g.cm, .int .i64 g.cp, .slice g.A g.n g.c, .int .i64 g.r0, .int .i64 g.r1, .int .i64 g.r2, .int .i64 g.r3, .int .i64 g.r4, .int .i64 g.r5, .int .i64 g.r6, .int .i64 g.r7, .int .i64 g.r8, .int .i64 g.r9, .int .i64 g.r10, .int .i64 g.r11, .int .i64 g.r12, .int .i64 g.r13, .int .i64 g.r14, .slice g.E g.m g.d] 29)).heap.size = w.heap.size + 1 := by simp
 rw [e1] at hA
 have hz2 := hz.up hB
 have h1 := fun w h => cfind_any g.A g.c L c w h (by omega)
 rw [ln] at h1
 generalize fndA L c = x at *
 generalize (fnd L c).isSome = q at *
 obtain ⟨s0, hs0⟩ : ∃ s0, w.heap.size = s0 := ⟨_, rfl⟩
 rw [hs0] at hB hG hA ⊢
 have HS0 := Lib.hid hs0
 have HZ := Lib.hid hz2
 have HA := Lib.hid hA
 have H1 := Lib.hid h1
 have c4 := hG.c4
 clear hz hz2 ln hl hB1 e1 hG hA h1
 have hs1 : s0 ≤ ((w.alloc (.cells #[.string g.cur, .int .i64 g.cy, .int .i64 g.cm, .int .i64 g.cp, .slice g.A g.n g.c, .int .i64 g.r0, .int .i64 g.r1, .int .i64 g.r2, .int .i64 g.r3, .int .i64 g.r4, .int .i64 g.r5, .int .i64 g.r6, .int .i64 g.r7, .int .i64 g.r8, .int .i64 g.r9, .int .i64 g.r10, .int .i64 g.r11, .int .i64 g.r12, .int .i64 g.r13, .int .i64 g.r14, .slice g.E g.m g.d] 29)).alloc (.cells #[.int .i64 acc0.code, .int .i64 acc0.kind, .int .i64 acc0.basis, .int .i64 acc0.par] 151)).heap.size := by simp; omega
 have HS1 := Lib.hid hs1
 clear hs1
 go_enter Tryz.func146, Tryz.ntmps146
 go_wp2_with (go_at_call 173; refine (H1.out _ HZ.out).mono ?_; rintro e w1 ⟨rfl, hb⟩; have hB2 := hB.trans (hb.mono HS1.out); have HA2 := HA.out.up hb; clear hb HA; obtain ⟨⟨z0, z1, z2, z3⟩, zlt, zf⟩ := HA2; have zf0 := zf 0; have zf1 := zf 1; have zf2 := zf 2; have zf3 := zf 3; simp only [Nat.zero_add] at z1 z2 z3; clear zf)
 exact bodyPost_ret (v := .tuple #[accV x, .bool q]) (by simp [results, Tryz.results146, go_sem, z0, z1, z2, z3]) rfl ⟨rfl, bset4 hB2 (by omega) _ _ _ _⟩
set_option maxRecDepth 20000 in
set_option maxHeartbeats 1600000 in
theorem racct_any (g : Grp) (L : List Acc) (c : Int) (w : World) (hz : AccAt w g.A L) (ln : L.length = g.n) (hl : g.n ≤ 1000) :
  Calls Tryz.prog 125 #[grpV g, .int .i64 c] w fun e w' => e = .returned (.tuple #[accV (fndA L c), .bool (fnd L c).isSome]) ∧ Below w.heap.size w w' := by
 have hB1 := below_alloc_new (w := w) (.cells #[.string g.cur, .int .i64 g.cy, .int .i64 g.cm, .int .i64 g.cp, .slice g.A g.n g.c, .int .i64 g.r0, .int .i64 g.r1, .int .i64 g.r2, .int .i64 g.r3, .int .i64 g.r4, .int .i64 g.r5, .int .i64 g.r6, .int .i64 g.r7, .int .i64 g.r8, .int .i64 g.r9, .int .i64 g.r10, .int .i64 g.r11, .int .i64 g.r12, .int .i64 g.r13, .int .i64 g.r14, .slice g.E g.m g.d] 29)
 have hB := below_new hB1 (.cells #[.int .i64 acc0.code, .int .i64 acc0.kind, .int .i64 acc0.basis, .int .i64 acc0.par] 151)
 have hG := (gb_new w 29 g).up (below_alloc_new (.cells #[.int .i64 acc0.code, .int .i64 acc0.kind, .int .i64 acc0.basis, .int .i64 acc0.par] 151))
 have hA := ab_new (w.alloc (.cells #[.string g.cur, .int .i64 g.cy, .int .i64 g.cm, .int .i64 g.cp, .slice g.A g.n g.c, .int .i64 g.r0, .int .i64 g.r1, .int .i64 g.r2, .int .i64 g.r3, .int .i64 g.r4, .int .i64 g.r5, .int .i64 g.r6, .int .i64 g.r7, .int .i64 g.r8, .int .i64 g.r9, .int .i64 g.r10, .int .i64 g.r11, .int .i64 g.r12, .int .i64 g.r13, .int .i64 g.r14, .slice g.E g.m g.d] 29)) 151 acc0
 have e1 : (w.alloc (.cells #[.string g.cur, .int .i64 g.cy, .int .i64 g.cm, .int .i64 g.cp, .slice g.A g.n g.c, .int .i64 g.r0, .int .i64 g.r1, .int .i64 g.r2, .int .i64 g.r3, .int .i64 g.r4, .int .i64 g.r5, .int .i64 g.r6, .int .i64 g.r7, .int .i64 g.r8, .int .i64 g.r9, .int .i64 g.r10, .int .i64 g.r11, .int .i64 g.r12, .int .i64 g.r13, .int .i64 g.r14, .slice g.E g.m g.d] 29)).heap.size = w.heap.size + 1 := by simp
 rw [e1] at hA
 have hz2 := hz.up hB
 have h1 := fun w h => rfind_any g.A g.c L c w h (by omega)
 rw [ln] at h1
 generalize fndA L c = x at *
 generalize (fnd L c).isSome = q at *
 obtain ⟨s0, hs0⟩ : ∃ s0, w.heap.size = s0 := ⟨_, rfl⟩
 rw [hs0] at hB hG hA ⊢
 have HS0 := Lib.hid hs0
 have HZ := Lib.hid hz2
 have HA := Lib.hid hA
 have H1 := Lib.hid h1
 have c4 := hG.c4
 clear hz hz2 ln hl hB1 e1 hG hA h1
 have hs1 : s0 ≤ ((w.alloc (.cells #[.string g.cur, .int .i64 g.cy, .int .i64 g.cm, .int .i64 g.cp, .slice g.A g.n g.c, .int .i64 g.r0, .int .i64 g.r1, .int .i64 g.r2, .int .i64 g.r3, .int .i64 g.r4, .int .i64 g.r5, .int .i64 g.r6, .int .i64 g.r7, .int .i64 g.r8, .int .i64 g.r9, .int .i64 g.r10, .int .i64 g.r11, .int .i64 g.r12, .int .i64 g.r13, .int .i64 g.r14, .slice g.E g.m g.d] 29)).alloc (.cells #[.int .i64 acc0.code, .int .i64 acc0.kind, .int .i64 acc0.basis, .int .i64 acc0.par] 151)).heap.size := by simp; omega
 have HS1 := Lib.hid hs1
 clear hs1
 go_enter Tryz.func125, Tryz.ntmps125
 go_wp2_with (go_at_call 105; refine (H1.out _ HZ.out).mono ?_; rintro e w1 ⟨rfl, hb⟩; have hB2 := hB.trans (hb.mono HS1.out); have HA2 := HA.out.up hb; clear hb HA; obtain ⟨⟨z0, z1, z2, z3⟩, zlt, zf⟩ := HA2; have zf0 := zf 0; have zf1 := zf 1; have zf2 := zf 2; have zf3 := zf 3; simp only [Nat.zero_add] at z1 z2 z3; clear zf)
 exact bodyPost_ret (v := .tuple #[accV x, .bool q]) (by simp [results, Tryz.results125, go_sem, z0, z1, z2, z3]) rfl ⟨rfl, bset4 hB2 (by omega) _ _ _ _⟩
end Go.Proofs.YtaeccljkmijpaaaGreat
