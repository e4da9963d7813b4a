/- Contracts and the law of ChartTree, part 2: what was proved of each, callees first. -/
import Derived.BigRegion
import Derived.Test.YtlhdnmpklaohkaaHT1
namespace Go.Proofs.Ytlhdnmpklaohkaa
open Go.RowKit
theorem rowB_prop {L : List Acc} {g : Bool} {k : Nat} (h : properB L g (L.getD k acc0) = false) : rowB L g k = false := by unfold rowB; rw [h]; rfl
theorem rowB_zero {L : List Acc} {g : Bool} (h : properB L g (L.getD 0 acc0) = true) : rowB L g 0 = topB L (L.getD 0 acc0) := by unfold rowB; rw [h]; simp
theorem rowB_down {L : List Acc} {g : Bool} {j : Nat} (h : (L.getD (j + 1) acc0).code ≤ (L.getD j acc0).code) : rowB L g (j + 1) = false := by
 unfold rowB
 rw [show decide (j + 1 = 0) = false from decide_eq_false (by omega), show decide ((L.getD (j + 1 - 1) acc0).code < (L.getD (j + 1) acc0).code) = false from decide_eq_false (by rw [Nat.add_sub_cancel]; omega)]
 simp
theorem rowB_up {L : List Acc} {g : Bool} {j : Nat} (h : properB L g (L.getD (j + 1) acc0) = true) (h2 : (L.getD j acc0).code < (L.getD (j + 1) acc0).code) : rowB L g (j + 1) = topB L (L.getD (j + 1) acc0) := by
 unfold rowB
 rw [h, show decide ((L.getD (j + 1 - 1) acc0).code < (L.getD (j + 1) acc0).code) = true from decide_eq_true (by rw [Nat.add_sub_cancel]; omega)]
 simp
def rvFa (b off n k : Nat) (cp : Nat) (g : Bool) (x : Acc) : List (Nat × AS.Fact) := [(15, AS.Fact.is (.slice (some ⟨b, off, none⟩) (n : Nat) cp)), (16, AS.Fact.is (.slice (some ⟨b, off, none⟩) (n : Nat) cp)), (17, AS.Fact.is (.int .i64 (k : Int))), (18, AS.Fact.is (.pointer (some ⟨b, off + k * 4, none⟩))), (19, AS.Fact.is (accV x)), (20, AS.Fact.is (.bool g)), (21, AS.Fact.is (.bool false)), (22, AS.Fact.is (.bool true)), (23, AS.Fact.is (.bool true)), (24, AS.Fact.is (undef)), (25, AS.Fact.is (undef)), (26, AS.Fact.is (undef)), (27, AS.Fact.is (undef)), (28, AS.Fact.is (undef)), (29, AS.Fact.is (undef)), (30, AS.Fact.is (undef)), (31, AS.Fact.is (undef)), (32, AS.Fact.is (undef)), (33, AS.Fact.is (undef)), (34, AS.Fact.is (undef)), (35, AS.Fact.is (undef)), (36, AS.Fact.is (undef)), (37, AS.Fact.is (undef)), (38, AS.Fact.is (undef)), (39, AS.Fact.is (undef)), (40, AS.Fact.is (.bool true)), (41, AS.Fact.is (.bool true)), (42, AS.Fact.is (undef)), (43, AS.Fact.is (undef)), (44, AS.Fact.is (undef)), (45, AS.Fact.is (undef)), (46, AS.Fact.is (undef)), (47, AS.Fact.is (undef)), (48, AS.Fact.is (undef)), (49, AS.Fact.is (undef)), (50, AS.Fact.is (undef)), (51, AS.Fact.is (undef)), (52, AS.Fact.is (undef)), (53, AS.Fact.is (.bool true))]
def rvFb (b off n k : Nat) (cp : Nat) (g : Bool) (x : Acc) (C : List Int) (cl : Nat) (q : Bool) : List (Nat × AS.Fact) := [(15, AS.Fact.is (.slice (some ⟨b, off, none⟩) (n : Nat) cp)), (16, AS.Fact.is (.slice (some ⟨b, off, none⟩) (n : Nat) cp)), (17, AS.Fact.is (.int .i64 (k : Int))), (18, AS.Fact.is (.pointer (some ⟨b, off + k * 4, none⟩))), (19, AS.Fact.is (accV x)), (20, AS.Fact.is (.bool g)), (21, AS.Fact.is (.bool true)), (22, AS.Fact.is (.bool false)), (23, AS.Fact.is (.bool false)), (24, AS.Fact.is (.int .i64 (k : Int))), (25, AS.Fact.is (.bool false)), (26, AS.Fact.is (.bool false)), (27, AS.Fact.is (undef)), (28, AS.Fact.is (undef)), (29, AS.Fact.is (undef)), (30, AS.Fact.is (undef)), (31, AS.Fact.is (undef)), (32, AS.Fact.is (undef)), (33, AS.Fact.is (undef)), (34, AS.Fact.is (undef)), (35, AS.Fact.is (undef)), (36, AS.Fact.is (undef)), (37, AS.Fact.is (undef)), (38, AS.Fact.is (undef)), (39, AS.Fact.is (.bool false)), (40, AS.Fact.is (.bool false)), (41, AS.Fact.is (.bool false)), (42, AS.Fact.is (.slice (some ⟨b, off, none⟩) (n : Nat) cp)), (43, AS.Fact.is (.slice (some ⟨b, off, none⟩) (n : Nat) cp)), (44, AS.Fact.is (.int .i64 (k : Int))), (45, AS.Fact.is (.pointer (some ⟨b, off + k * 4, none⟩))), (46, AS.Fact.is (.pointer (some ⟨b, off + k * 4, none⟩))), (47, AS.Fact.is (.int .i64 x.code)), (48, HSl C), (49, AS.Fact.is (.int .i64 (cl : Int))), (50, AS.Fact.is (.slice (some ⟨b, off, none⟩) (n : Nat) cp)), (51, AS.Fact.is (.int .i64 (n : Int))), (52, AS.Fact.is (.bool q)), (53, AS.Fact.is (.bool q))]
def rvFc (b off n k j : Nat) (cp : Nat) (g : Bool) (x y : Acc) : List (Nat × AS.Fact) := [(15, AS.Fact.is (.slice (some ⟨b, off, none⟩) (n : Nat) cp)), (16, AS.Fact.is (.slice (some ⟨b, off, none⟩) (n : Nat) cp)), (17, AS.Fact.is (.int .i64 (k : Int))), (18, AS.Fact.is (.pointer (some ⟨b, off + k * 4, none⟩))), (19, AS.Fact.is (accV x)), (20, AS.Fact.is (.bool g)), (21, AS.Fact.is (.bool true)), (22, AS.Fact.is (.bool false)), (23, AS.Fact.is (.bool false)), (24, AS.Fact.is (.int .i64 (k : Int))), (25, AS.Fact.is (.bool true)), (26, AS.Fact.is (.bool true)), (27, AS.Fact.is (.slice (some ⟨b, off, none⟩) (n : Nat) cp)), (28, AS.Fact.is (.int .i64 (k : Int))), (29, AS.Fact.is (.pointer (some ⟨b, off + k * 4, none⟩))), (30, AS.Fact.is (.pointer (some ⟨b, off + k * 4, none⟩))), (31, AS.Fact.is (.int .i64 x.code)), (32, AS.Fact.is (.slice (some ⟨b, off, none⟩) (n : Nat) cp)), (33, AS.Fact.is (.int .i64 (k : Int))), (34, AS.Fact.is (.int .i64 (j : Int))), (35, AS.Fact.is (.pointer (some ⟨b, off + j * 4, none⟩))), (36, AS.Fact.is (.pointer (some ⟨b, off + j * 4, none⟩))), (37, AS.Fact.is (.int .i64 y.code)), (38, AS.Fact.is (.bool true)), (39, AS.Fact.is (.bool true)), (40, AS.Fact.is (.bool true)), (41, AS.Fact.is (.bool true)), (42, AS.Fact.is (undef)), (43, AS.Fact.is (undef)), (44, AS.Fact.is (undef)), (45, AS.Fact.is (undef)), (46, AS.Fact.is (undef)), (47, AS.Fact.is (undef)), (48, AS.Fact.is (undef)), (49, AS.Fact.is (undef)), (50, AS.Fact.is (undef)), (51, AS.Fact.is (undef)), (52, AS.Fact.is (undef)), (53, AS.Fact.is (.bool true))]
def rvFd (b off n k j : Nat) (cp : Nat) (g : Bool) (x y : Acc) (C : List Int) (cl : Nat) (q : Bool) : List (Nat × AS.Fact) := [(15, AS.Fact.is (.slice (some ⟨b, off, none⟩) (n : Nat) cp)), (16, AS.Fact.is (.slice (some ⟨b, off, none⟩) (n : Nat) cp)), (17, AS.Fact.is (.int .i64 (k : Int))), (18, AS.Fact.is (.pointer (some ⟨b, off + k * 4, none⟩))), (19, AS.Fact.is (accV x)), (20, AS.Fact.is (.bool g)), (21, AS.Fact.is (.bool true)), (22, AS.Fact.is (.bool false)), (23, AS.Fact.is (.bool false)), (24, AS.Fact.is (.int .i64 (k : Int))), (25, AS.Fact.is (.bool true)), (26, AS.Fact.is (.bool true)), (27, AS.Fact.is (.slice (some ⟨b, off, none⟩) (n : Nat) cp)), (28, AS.Fact.is (.int .i64 (k : Int))), (29, AS.Fact.is (.pointer (some ⟨b, off + k * 4, none⟩))), (30, AS.Fact.is (.pointer (some ⟨b, off + k * 4, none⟩))), (31, AS.Fact.is (.int .i64 x.code)), (32, AS.Fact.is (.slice (some ⟨b, off, none⟩) (n : Nat) cp)), (33, AS.Fact.is (.int .i64 (k : Int))), (34, AS.Fact.is (.int .i64 (j : Int))), (35, AS.Fact.is (.pointer (some ⟨b, off + j * 4, none⟩))), (36, AS.Fact.is (.pointer (some ⟨b, off + j * 4, none⟩))), (37, AS.Fact.is (.int .i64 y.code)), (38, AS.Fact.is (.bool false)), (39, AS.Fact.is (.bool false)), (40, AS.Fact.is (.bool false)), (41, AS.Fact.is (.bool false)), (42, AS.Fact.is (.slice (some ⟨b, off, none⟩) (n : Nat) cp)), (43, AS.Fact.is (.slice (some ⟨b, off, none⟩) (n : Nat) cp)), (44, AS.Fact.is (.int .i64 (k : Int))), (45, AS.Fact.is (.pointer (some ⟨b, off + k * 4, none⟩))), (46, AS.Fact.is (.pointer (some ⟨b, off + k * 4, none⟩))), (47, AS.Fact.is (.int .i64 x.code)), (48, HSl C), (49, AS.Fact.is (.int .i64 (cl : Int))), (50, AS.Fact.is (.slice (some ⟨b, off, none⟩) (n : Nat) cp)), (51, AS.Fact.is (.int .i64 (n : Int))), (52, AS.Fact.is (.bool q)), (53, AS.Fact.is (.bool q))]
set_option maxRecDepth 20000 in
set_option maxHeartbeats 3200000 in
theorem rvalid8_any (A : Option Addr) (cp : Nat) (L : List Acc) (g : Bool) (w : World) (hz : AccAt w A L) (hl : L.length ≤ 1000) :
  Calls Try.prog 12 #[.slice A L.length cp, .bool g] w fun e w' => e = .returned (.bool (rvB L g)) ∧ Below w.heap.size w w' := by
 have hB := Below.refl w.heap.size w
 have hPr := fun x w h => rproper_any A cp L x g w h hl
 have hCb := fun c w h => rclimb_any A cp L c w h hl
 obtain ⟨n, hn⟩ : ∃ n, L.length = n := ⟨_, rfl⟩
 have hn0 := hn
 rw [hn] at hl hPr hCb ⊢
 have HN := Lib.hid hn
 have HZ := Lib.hid hz
 have HPr := Lib.hid hPr
 have HCb := Lib.hid hCb
 clear hn hz hPr hCb
 by_cases hbig : 200 < n
 ·have E : Hid (rvB L g = false) := Lib.hid (by unfold rvB; rw [decide_eq_false (by omega)]; rfl)
  have e1 : decide ((200 : Int) < (n : Int)) = true := decide_eq_true (by omega)
  clear hn0
  go_enter Try.func12, Try.ntmps12
  go_wp2_with fail
  go_ret
  exact ⟨by rw [E.out]; rfl, hB⟩
 have HV : Hid (rvB L g = rowsTo L g n) := Lib.hid (by unfold rvB; rw [decide_eq_true (by omega), hn0]; rfl)
 have e1 : decide ((200 : Int) < (n : Int)) = false := decide_eq_false (by omega)
 clear hn0
 go_enter Try.func12, Try.ntmps12
 go_wp2_with fail
 go_loopg [5] n (fun kx s5 wr => ∃ k : Nat, s5 = .int .i64 k ∧ k ≤ n ∧ n - k ≤ kx ∧ Hid (rowsTo L g k = true) ∧ Below w.heap.size w wr)
 case atStart => exact ⟨0, rfl, by omega, by omega, Lib.hid rfl, hB⟩
 case round =>
  clear hB
  obtain ⟨k, rfl, hk, hkx, HR, hB⟩ := hrel
  by_cases hlt : k < n
  ·have hltz : (k : Int) < (n : Int) := by omega
   have HZW := Lib.hid (HZ.out.up hB)
   obtain ⟨b, off, rfl, hbw, hcs⟩ := HZW.out (by rw [HN.out]; omega)
   have hbW : b < wr.heap.size := hbw
   obtain ⟨x, hx⟩ : ∃ x, L.getD k acc0 = x := ⟨_, rfl⟩
   have hx4 := hcs k (by rw [HN.out]; exact hlt)
   rw [hx] at hx4
   have HX := Lib.hid hx
   have HX4 := Lib.hid hx4
   have HCS := Lib.hid hcs
   have hpr := HPr.out x
   have hcb := HCb.out x.code
   clear hcs hx hx4 hbw
   go_wp2_with fail
   cases hp : properB L g x
   ·have E : Hid (rvB L g = false) := Lib.hid (rvB_no (k := k) (by rw [HN.out]; exact hlt) (rowB_prop (by rw [HX.out]; exact hp)))
    rw [hp] at hpr
    replace HPr := Lib.hid hpr
    clear hpr hcb HCb hp
    refine AS.region_facts (rvFa b off n k cp g x) (HNo wr) [[], [], [], [16, 17], [18], [], [15, 19, 20], [21], [22], [23], [23], [23], [26], [26], [26], [26], [26], [26], [26], [26], [26], [26], [26], [26], [23], [23, 39], [40], [41], [41], [41], [41], [41], [41], [41], [41], [41], [41], [41], [41, 52]] [] [[]] [0, 0, 0, 0, 0, 0, 0, 0, 0, 0, 0, 0, 0, 0, 0, 0, 0, 0, 0, 0, 0, 0, 0, 0, 0, 0, 0, 0, 0, 0, 0, 0, 0, 0, 0, 0, 0, 0, 0] [] (fun u => by simp only [rvFa, AS.temps, List.map_cons, List.map_nil, fillL, List.setIfInBounds_toArray, List.set_cons_zero, List.set_cons_succ]; rfl) (by kernel_rfl) (by kernel_rfl) (HNo.st wr) (dc_drew (Below.refl _ _)) ?_ ?_
    ·refine AS.sc rfl rfl rfl ?_ ?_
     ·intro k_ u w_ hk_ hJ hF K hK
      clear hF
      go_simp
      exact hK.out _ _ (Below.refl _ _) (rfl) trivial
     refine AS.sc rfl rfl rfl ?_ ?_
     ·intro k_ u w_ hk_ hJ hF K hK
      clear hF
      go_simp
      exact hK.out _ _ (Below.refl _ _) (rfl) trivial
     refine AS.sc rfl rfl rfl ?_ ?_
     ·intro k_ u w_ hk_ hJ hF K hK
      clear hF
      go_simp
      exact hK.out _ _ (Below.refl _ _) (rfl) trivial
     refine AS.sc rfl rfl rfl ?_ ?_
     ·intro k_ u w_ hk_ hJ hF K hK
      have h16 : u 16 = .slice (some ⟨b, off, none⟩) (n : Nat) cp := AS.facts_get hF 16 (by simp)
      have h17 : u 17 = .int .i64 (k : Int) := AS.facts_get hF 17 (by simp)
      clear hF
      simp only [h16, h17] at hK ⊢
      clear h16 h17
      go_simp
      exact hK.out _ _ (Below.refl _ _) (rfl) trivial
     refine AS.sc rfl rfl rfl ?_ ?_
     ·intro k_ u w_ hk_ hJ hF K hK
      have h18 : u 18 = .pointer (some ⟨b, off + k * 4, none⟩) := AS.facts_get hF 18 (by simp)
      clear hF
      simp only [h18] at hK ⊢
      clear h18
      obtain ⟨c0, c1, c2, c3⟩ := HX4.out.up (hJ : Below wr.heap.size wr w_) hbW
      go_simp
      exact hK.out _ _ (Below.refl _ _) (rfl) trivial
     refine AS.sc rfl rfl rfl ?_ ?_
     ·intro k_ u w_ hk_ hJ hF K hK
      clear hF
      go_simp
      exact hK.out _ _ (Below.refl _ _) (rfl) trivial
     refine AS.sc rfl rfl rfl ?_ ?_
     ·intro k_ u w_ hk_ hJ hF K hK
      have h15 : u 15 = .slice (some ⟨b, off, none⟩) (n : Nat) cp := AS.facts_get hF 15 (by simp)
      have h19 : u 19 = accV x := AS.facts_get hF 19 (by simp)
      have h20 : u 20 = .bool g := AS.facts_get hF 20 (by simp)
      clear hF
      simp only [h15, h19, h20] at hK ⊢
      clear h15 h19 h20
      have hz9 := HZW.out.up (hJ : Below wr.heap.size wr w_)
      go_simp
      refine (HPr.out _ hz9).mono ?_
      rintro e w3 ⟨rfl, hb⟩
      exact hK.out _ _ hb (rfl) trivial
     refine AS.sc rfl rfl rfl ?_ ?_
     ·intro k_ u w_ hk_ hJ hF K hK
      have h21 : u 21 = .bool false := AS.facts_get hF 21 (by simp)
      clear hF
      simp only [h21] at hK ⊢
      clear h21
      go_simp
      exact hK.out _ _ (Below.refl _ _) (rfl) trivial
     refine AS.sc rfl rfl rfl ?_ ?_
     ·intro k_ u w_ hk_ hJ hF K hK
      have h22 : u 22 = .bool true := AS.facts_get hF 22 (by simp)
      clear hF
      simp only [h22] at hK ⊢
      clear h22
      go_simp
      exact hK.out _ _ (Below.refl _ _) (rfl) trivial
     refine AS.sc rfl rfl rfl ?_ ?_
     ·intro k_ u w_ hk_ hJ hF K hK
      have h23 : u 23 = .bool true := AS.facts_get hF 23 (by simp)
      clear hF
      simp only [h23] at hK ⊢
      clear h23
      go_simp
      exact hK.out _ _ (Below.refl _ _) (rfl) trivial
     refine AS.sc rfl rfl rfl ?_ ?_
     ·intro k_ u w_ hk_ hJ hF K hK
      have h23 : u 23 = .bool true := AS.facts_get hF 23 (by simp)
      clear hF
      simp only [h23] at hK ⊢
      clear h23
      go_simp
      exact hK.out _ _ (Below.refl _ _) (rfl) trivial
     refine AS.sc rfl rfl rfl ?_ ?_
     ·intro k_ u w_ hk_ hJ hF K hK
      have h23 : u 23 = .bool true := AS.facts_get hF 23 (by simp)
      clear hF
      simp only [h23] at hK ⊢
      clear h23
      go_simp
      exact hK.out _ _ (Below.refl _ _) (rfl) trivial
     refine AS.sc rfl rfl rfl ?_ ?_
     ·intro k_ u w_ hk_ hJ hF K hK
      have h26 : u 26 = undef := AS.facts_get hF 26 (by simp)
      clear hF
      simp only [h26] at hK ⊢
      clear h26
      go_simp
      exact hK.out _ _ (Below.refl _ _) (rfl) trivial
     refine AS.sc rfl rfl rfl ?_ ?_
     ·intro k_ u w_ hk_ hJ hF K hK
      have h26 : u 26 = undef := AS.facts_get hF 26 (by simp)
      clear hF
      simp only [h26] at hK ⊢
      clear h26
      go_simp
      exact hK.out _ _ (Below.refl _ _) (rfl) trivial
     refine AS.sc rfl rfl rfl ?_ ?_
     ·intro k_ u w_ hk_ hJ hF K hK
      have h26 : u 26 = undef := AS.facts_get hF 26 (by simp)
      clear hF
      simp only [h26] at hK ⊢
      clear h26
      go_simp
      exact hK.out _ _ (Below.refl _ _) (rfl) trivial
     refine AS.sc rfl rfl rfl ?_ ?_
     ·intro k_ u w_ hk_ hJ hF K hK
      have h26 : u 26 = undef := AS.facts_get hF 26 (by simp)
      clear hF
      simp only [h26] at hK ⊢
      clear h26
      go_simp
      exact hK.out _ _ (Below.refl _ _) (rfl) trivial
     refine AS.sc rfl rfl rfl ?_ ?_
     ·intro k_ u w_ hk_ hJ hF K hK
      have h26 : u 26 = undef := AS.facts_get hF 26 (by simp)
      clear hF
      simp only [h26] at hK ⊢
      clear h26
      go_simp
      exact hK.out _ _ (Below.refl _ _) (rfl) trivial
     refine AS.sc rfl rfl rfl ?_ ?_
     ·intro k_ u w_ hk_ hJ hF K hK
      have h26 : u 26 = undef := AS.facts_get hF 26 (by simp)
      clear hF
      simp only [h26] at hK ⊢
      clear h26
      go_simp
      exact hK.out _ _ (Below.refl _ _) (rfl) trivial
     refine AS.sc rfl rfl rfl ?_ ?_
     ·intro k_ u w_ hk_ hJ hF K hK
      have h26 : u 26 = undef := AS.facts_get hF 26 (by simp)
      clear hF
      simp only [h26] at hK ⊢
      clear h26
      go_simp
      exact hK.out _ _ (Below.refl _ _) (rfl) trivial
     refine AS.sc rfl rfl rfl ?_ ?_
     ·intro k_ u w_ hk_ hJ hF K hK
      have h26 : u 26 = undef := AS.facts_get hF 26 (by simp)
      clear hF
      simp only [h26] at hK ⊢
      clear h26
      go_simp
      exact hK.out _ _ (Below.refl _ _) (rfl) trivial
     refine AS.sc rfl rfl rfl ?_ ?_
     ·intro k_ u w_ hk_ hJ hF K hK
      have h26 : u 26 = undef := AS.facts_get hF 26 (by simp)
      clear hF
      simp only [h26] at hK ⊢
      clear h26
      go_simp
      exact hK.out _ _ (Below.refl _ _) (rfl) trivial
     refine AS.sc rfl rfl rfl ?_ ?_
     ·intro k_ u w_ hk_ hJ hF K hK
      have h26 : u 26 = undef := AS.facts_get hF 26 (by simp)
      clear hF
      simp only [h26] at hK ⊢
      clear h26
      go_simp
      exact hK.out _ _ (Below.refl _ _) (rfl) trivial
     refine AS.sc rfl rfl rfl ?_ ?_
     ·intro k_ u w_ hk_ hJ hF K hK
      have h26 : u 26 = undef := AS.facts_get hF 26 (by simp)
      clear hF
      simp only [h26] at hK ⊢
      clear h26
      go_simp
      exact hK.out _ _ (Below.refl _ _) (rfl) trivial
     refine AS.sc rfl rfl rfl ?_ ?_
     ·intro k_ u w_ hk_ hJ hF K hK
      have h26 : u 26 = undef := AS.facts_get hF 26 (by simp)
      clear hF
      simp only [h26] at hK ⊢
      clear h26
      go_simp
      exact hK.out _ _ (Below.refl _ _) (rfl) trivial
     refine AS.sc rfl rfl rfl ?_ ?_
     ·intro k_ u w_ hk_ hJ hF K hK
      have h23 : u 23 = .bool true := AS.facts_get hF 23 (by simp)
      clear hF
      simp only [h23] at hK ⊢
      clear h23
      go_simp
      exact hK.out _ _ (Below.refl _ _) (rfl) trivial
     refine AS.sc rfl rfl rfl ?_ ?_
     ·intro k_ u w_ hk_ hJ hF K hK
      have h23 : u 23 = .bool true := AS.facts_get hF 23 (by simp)
      have h39 : u 39 = undef := AS.facts_get hF 39 (by simp)
      clear hF
      simp only [h23, h39] at hK ⊢
      clear h23 h39
      go_simp
      exact hK.out _ _ (Below.refl _ _) (rfl) trivial
     refine AS.sc rfl rfl rfl ?_ ?_
     ·intro k_ u w_ hk_ hJ hF K hK
      have h40 : u 40 = .bool true := AS.facts_get hF 40 (by simp)
      clear hF
      simp only [h40] at hK ⊢
      clear h40
      go_simp
      exact hK.out _ _ (Below.refl _ _) (rfl) trivial
     refine AS.sc rfl rfl rfl ?_ ?_
     ·intro k_ u w_ hk_ hJ hF K hK
      have h41 : u 41 = .bool true := AS.facts_get hF 41 (by simp)
      clear hF
      simp only [h41] at hK ⊢
      clear h41
      go_simp
      exact hK.out _ _ (Below.refl _ _) (rfl) trivial
     refine AS.sc rfl rfl rfl ?_ ?_
     ·intro k_ u w_ hk_ hJ hF K hK
      have h41 : u 41 = .bool true := AS.facts_get hF 41 (by simp)
      clear hF
      simp only [h41] at hK ⊢
      clear h41
      go_simp
      exact hK.out _ _ (Below.refl _ _) (rfl) trivial
     refine AS.sc rfl rfl rfl ?_ ?_
     ·intro k_ u w_ hk_ hJ hF K hK
      have h41 : u 41 = .bool true := AS.facts_get hF 41 (by simp)
      clear hF
      simp only [h41] at hK ⊢
      clear h41
      go_simp
      exact hK.out _ _ (Below.refl _ _) (rfl) trivial
     refine AS.sc rfl rfl rfl ?_ ?_
     ·intro k_ u w_ hk_ hJ hF K hK
      have h41 : u 41 = .bool true := AS.facts_get hF 41 (by simp)
      clear hF
      simp only [h41] at hK ⊢
      clear h41
      go_simp
      exact hK.out _ _ (Below.refl _ _) (rfl) trivial
     refine AS.sc rfl rfl rfl ?_ ?_
     ·intro k_ u w_ hk_ hJ hF K hK
      have h41 : u 41 = .bool true := AS.facts_get hF 41 (by simp)
      clear hF
      simp only [h41] at hK ⊢
      clear h41
      go_simp
      exact hK.out _ _ (Below.refl _ _) (rfl) trivial
     refine AS.sc rfl rfl rfl ?_ ?_
     ·intro k_ u w_ hk_ hJ hF K hK
      have h41 : u 41 = .bool true := AS.facts_get hF 41 (by simp)
      clear hF
      simp only [h41] at hK ⊢
      clear h41
      go_simp
      exact hK.out _ _ (Below.refl _ _) (rfl) trivial
     refine AS.sc rfl rfl rfl ?_ ?_
     ·intro k_ u w_ hk_ hJ hF K hK
      have h41 : u 41 = .bool true := AS.facts_get hF 41 (by simp)
      clear hF
      simp only [h41] at hK ⊢
      clear h41
      go_simp
      exact hK.out _ _ (Below.refl _ _) (rfl) trivial
     refine AS.sc rfl rfl rfl ?_ ?_
     ·intro k_ u w_ hk_ hJ hF K hK
      have h41 : u 41 = .bool true := AS.facts_get hF 41 (by simp)
      clear hF
      simp only [h41] at hK ⊢
      clear h41
      go_simp
      exact hK.out _ _ (Below.refl _ _) (rfl) trivial
     refine AS.sc rfl rfl rfl ?_ ?_
     ·intro k_ u w_ hk_ hJ hF K hK
      have h41 : u 41 = .bool true := AS.facts_get hF 41 (by simp)
      clear hF
      simp only [h41] at hK ⊢
      clear h41
      go_simp
      exact hK.out _ _ (Below.refl _ _) (rfl) trivial
     refine AS.sc rfl rfl rfl ?_ ?_
     ·intro k_ u w_ hk_ hJ hF K hK
      have h41 : u 41 = .bool true := AS.facts_get hF 41 (by simp)
      clear hF
      simp only [h41] at hK ⊢
      clear h41
      go_simp
      exact hK.out _ _ (Below.refl _ _) (rfl) trivial
     refine AS.sc rfl rfl rfl ?_ ?_
     ·intro k_ u w_ hk_ hJ hF K hK
      have h41 : u 41 = .bool true := AS.facts_get hF 41 (by simp)
      clear hF
      simp only [h41] at hK ⊢
      clear h41
      go_simp
      exact hK.out _ _ (Below.refl _ _) (rfl) trivial
     refine AS.sc rfl rfl rfl ?_ ?_
     ·intro k_ u w_ hk_ hJ hF K hK
      have h41 : u 41 = .bool true := AS.facts_get hF 41 (by simp)
      have h52 : u 52 = undef := AS.facts_get hF 52 (by simp)
      clear hF
      simp only [h41, h52] at hK ⊢
      clear h41 h52
      go_simp
      exact hK.out _ _ (Below.refl _ _) (rfl) trivial
     exact AS.StepsOk.nil
    ·intro u W9 hJ9 hF
     have h53 : u 53 = .bool true := AS.facts_get hF 53 (by simp [rvFa, AS.temps])
     have hB9 : Below wr.heap.size wr W9 := hJ9
     clear hF hJ9
     simp only [h53]
     clear h53
     go_wp2_with fail
     go_ret
     exact ⟨by rw [E.out]; rfl, hB.trans (hB9.mono hB.size)⟩
   ·rw [hp] at hpr
    replace HPr := Lib.hid hpr
    have htb : topB L x = decide ((climb L x.code).length ≤ L.length) := rfl
    obtain ⟨C, hC⟩ : ∃ C, climb L x.code = C := ⟨_, rfl⟩
    obtain ⟨cl, hcl⟩ : ∃ cl, C.length = cl := ⟨_, rfl⟩
    rw [hC] at hcb
    rw [hC, hcl, HN.out] at htb
    replace HCb := Lib.hid hcb
    have HCL := Lib.hid hcl
    have HTB := Lib.hid htb
    have hcl2 : cl ≤ 2000 := by have := climb_le (L := L) (c := x.code); rw [hC, hcl, HN.out] at this; omega
    have HP := Lib.hid hp
    clear hpr hcb hp hC hcl htb
    obtain ⟨q, hq⟩ : ∃ q, decide (n < cl) = q := ⟨_, rfl⟩
    have HTQ : Hid (topB L x = !q) := Lib.hid (by
     rw [HTB.out, ← hq]
     rcases Nat.lt_or_ge n cl with h1 | h1
     ·rw [decide_eq_false (show ¬ cl ≤ n by omega), decide_eq_true (show n < cl by omega)]; rfl
     ·rw [decide_eq_true (show cl ≤ n by omega), decide_eq_false (show ¬ n < cl by omega)]; rfl)
    rcases Nat.eq_zero_or_pos k with hk0 | hk0
    ·have HQ : Hid (rowB L g k = !q) := Lib.hid (by subst hk0; rw [rowB_zero (by rw [HX.out]; exact HP.out), HX.out]; exact HTQ.out)
     have e2 : decide (0 < k) = false := decide_eq_false (by omega)
     clear hk0
     refine AS.region_facts (rvFb b off n k cp g x C cl q) (HNo wr) [[], [], [], [16, 17], [18], [], [15, 19, 20], [21], [22], [23], [24, 23], [25, 23], [26], [26], [26], [26], [26], [26], [26], [26], [26], [26], [26], [26], [26, 38, 23], [23, 39], [40], [41], [41], [41], [43, 44, 41], [45, 41], [46, 41], [42, 47, 41], [48, 41], [41], [50, 41], [49, 51, 41], [41, 52]] [] [[]] [0, 0, 0, 0, 0, 0, 0, 0, 0, 0, 0, 0, 0, 0, 0, 0, 0, 0, 0, 0, 0, 0, 0, 0, 0, 0, 0, 0, 0, 0, 0, 0, 0, 0, 0, 0, 0, 0, 0] [] (fun u => by simp only [rvFb, AS.temps, List.map_cons, List.map_nil, fillL, List.setIfInBounds_toArray, List.set_cons_zero, List.set_cons_succ]; rfl) (by kernel_rfl) (by kernel_rfl) (HNo.st wr) (dc_drew (Below.refl _ _)) ?_ ?_
     ·refine AS.sc rfl rfl rfl ?_ ?_
      ·intro k_ u w_ hk_ hJ hF K hK
       clear hF
       go_simp
       exact hK.out _ _ (Below.refl _ _) (rfl) trivial
      refine AS.sc rfl rfl rfl ?_ ?_
      ·intro k_ u w_ hk_ hJ hF K hK
       clear hF
       go_simp
       exact hK.out _ _ (Below.refl _ _) (rfl) trivial
      refine AS.sc rfl rfl rfl ?_ ?_
      ·intro k_ u w_ hk_ hJ hF K hK
       clear hF
       go_simp
       exact hK.out _ _ (Below.refl _ _) (rfl) trivial
      refine AS.sc rfl rfl rfl ?_ ?_
      ·intro k_ u w_ hk_ hJ hF K hK
       have h16 : u 16 = .slice (some ⟨b, off, none⟩) (n : Nat) cp := AS.facts_get hF 16 (by simp)
       have h17 : u 17 = .int .i64 (k : Int) := AS.facts_get hF 17 (by simp)
       clear hF
       simp only [h16, h17] at hK ⊢
       clear h16 h17
       go_simp
       exact hK.out _ _ (Below.refl _ _) (rfl) trivial
      refine AS.sc rfl rfl rfl ?_ ?_
      ·intro k_ u w_ hk_ hJ hF K hK
       have h18 : u 18 = .pointer (some ⟨b, off + k * 4, none⟩) := AS.facts_get hF 18 (by simp)
       clear hF
       simp only [h18] at hK ⊢
       clear h18
       obtain ⟨c0, c1, c2, c3⟩ := HX4.out.up (hJ : Below wr.heap.size wr w_) hbW
       go_simp
       exact hK.out _ _ (Below.refl _ _) (rfl) trivial
      refine AS.sc rfl rfl rfl ?_ ?_
      ·intro k_ u w_ hk_ hJ hF K hK
       clear hF
       go_simp
       exact hK.out _ _ (Below.refl _ _) (rfl) trivial
      refine AS.sc rfl rfl rfl ?_ ?_
      ·intro k_ u w_ hk_ hJ hF K hK
       have h15 : u 15 = .slice (some ⟨b, off, none⟩) (n : Nat) cp := AS.facts_get hF 15 (by simp)
       have h19 : u 19 = accV x := AS.facts_get hF 19 (by simp)
       have h20 : u 20 = .bool g := AS.facts_get hF 20 (by simp)
       clear hF
       simp only [h15, h19, h20] at hK ⊢
       clear h15 h19 h20
       have hz9 := HZW.out.up (hJ : Below wr.heap.size wr w_)
       go_simp
       refine (HPr.out _ hz9).mono ?_
       rintro e w3 ⟨rfl, hb⟩
       exact hK.out _ _ hb (rfl) trivial
      refine AS.sc rfl rfl rfl ?_ ?_
      ·intro k_ u w_ hk_ hJ hF K hK
       have h21 : u 21 = .bool true := AS.facts_get hF 21 (by simp)
       clear hF
       simp only [h21] at hK ⊢
       clear h21
       go_simp
       exact hK.out _ _ (Below.refl _ _) (rfl) trivial
      refine AS.sc rfl rfl rfl ?_ ?_
      ·intro k_ u w_ hk_ hJ hF K hK
       have h22 : u 22 = .bool false := AS.facts_get hF 22 (by simp)
       clear hF
       simp only [h22] at hK ⊢
       clear h22
       go_simp
       exact hK.out _ _ (Below.refl _ _) (rfl) trivial
      refine AS.sc rfl rfl rfl ?_ ?_
      ·intro k_ u w_ hk_ hJ hF K hK
       have h23 : u 23 = .bool false := AS.facts_get hF 23 (by simp)
       clear hF
       simp only [h23] at hK ⊢
       clear h23
       go_simp
       exact hK.out _ _ (Below.refl _ _) (rfl) trivial
      refine AS.sc rfl rfl rfl ?_ ?_
      ·intro k_ u w_ hk_ hJ hF K hK
       have h24 : u 24 = .int .i64 (k : Int) := AS.facts_get hF 24 (by simp)
       have h23 : u 23 = .bool false := AS.facts_get hF 23 (by simp)
       clear hF
       simp only [h24, h23] at hK ⊢
       clear h24 h23
       go_simp
       exact hK.out _ _ (Below.refl _ _) (rfl) trivial
      refine AS.sc rfl rfl rfl ?_ ?_
      ·intro k_ u w_ hk_ hJ hF K hK
       have h25 : u 25 = .bool false := AS.facts_get hF 25 (by simp)
       have h23 : u 23 = .bool false := AS.facts_get hF 23 (by simp)
       clear hF
       simp only [h25, h23] at hK ⊢
       clear h25 h23
       go_simp
       exact hK.out _ _ (Below.refl _ _) (rfl) trivial
      refine AS.sc rfl rfl rfl ?_ ?_
      ·intro k_ u w_ hk_ hJ hF K hK
       have h26 : u 26 = .bool false := AS.facts_get hF 26 (by simp)
       clear hF
       simp only [h26] at hK ⊢
       clear h26
       go_simp
       exact hK.out _ _ (Below.refl _ _) (rfl) trivial
      refine AS.sc rfl rfl rfl ?_ ?_
      ·intro k_ u w_ hk_ hJ hF K hK
       have h26 : u 26 = .bool false := AS.facts_get hF 26 (by simp)
       clear hF
       simp only [h26] at hK ⊢
       clear h26
       go_simp
       exact hK.out _ _ (Below.refl _ _) (rfl) trivial
      refine AS.sc rfl rfl rfl ?_ ?_
      ·intro k_ u w_ hk_ hJ hF K hK
       have h26 : u 26 = .bool false := AS.facts_get hF 26 (by simp)
       clear hF
       simp only [h26] at hK ⊢
       clear h26
       go_simp
       exact hK.out _ _ (Below.refl _ _) (rfl) trivial
      refine AS.sc rfl rfl rfl ?_ ?_
      ·intro k_ u w_ hk_ hJ hF K hK
       have h26 : u 26 = .bool false := AS.facts_get hF 26 (by simp)
       clear hF
       simp only [h26] at hK ⊢
       clear h26
       go_simp
       exact hK.out _ _ (Below.refl _ _) (rfl) trivial
      refine AS.sc rfl rfl rfl ?_ ?_
      ·intro k_ u w_ hk_ hJ hF K hK
       have h26 : u 26 = .bool false := AS.facts_get hF 26 (by simp)
       clear hF
       simp only [h26] at hK ⊢
       clear h26
       go_simp
       exact hK.out _ _ (Below.refl _ _) (rfl) trivial
      refine AS.sc rfl rfl rfl ?_ ?_
      ·intro k_ u w_ hk_ hJ hF K hK
       have h26 : u 26 = .bool false := AS.facts_get hF 26 (by simp)
       clear hF
       simp only [h26] at hK ⊢
       clear h26
       go_simp
       exact hK.out _ _ (Below.refl _ _) (rfl) trivial
      refine AS.sc rfl rfl rfl ?_ ?_
      ·intro k_ u w_ hk_ hJ hF K hK
       have h26 : u 26 = .bool false := AS.facts_get hF 26 (by simp)
       clear hF
       simp only [h26] at hK ⊢
       clear h26
       go_simp
       exact hK.out _ _ (Below.refl _ _) (rfl) trivial
      refine AS.sc rfl rfl rfl ?_ ?_
      ·intro k_ u w_ hk_ hJ hF K hK
       have h26 : u 26 = .bool false := AS.facts_get hF 26 (by simp)
       clear hF
       simp only [h26] at hK ⊢
       clear h26
       go_simp
       exact hK.out _ _ (Below.refl _ _) (rfl) trivial
      refine AS.sc rfl rfl rfl ?_ ?_
      ·intro k_ u w_ hk_ hJ hF K hK
       have h26 : u 26 = .bool false := AS.facts_get hF 26 (by simp)
       clear hF
       simp only [h26] at hK ⊢
       clear h26
       go_simp
       exact hK.out _ _ (Below.refl _ _) (rfl) trivial
      refine AS.sc rfl rfl rfl ?_ ?_
      ·intro k_ u w_ hk_ hJ hF K hK
       have h26 : u 26 = .bool false := AS.facts_get hF 26 (by simp)
       clear hF
       simp only [h26] at hK ⊢
       clear h26
       go_simp
       exact hK.out _ _ (Below.refl _ _) (rfl) trivial
      refine AS.sc rfl rfl rfl ?_ ?_
      ·intro k_ u w_ hk_ hJ hF K hK
       have h26 : u 26 = .bool false := AS.facts_get hF 26 (by simp)
       clear hF
       simp only [h26] at hK ⊢
       clear h26
       go_simp
       exact hK.out _ _ (Below.refl _ _) (rfl) trivial
      refine AS.sc rfl rfl rfl ?_ ?_
      ·intro k_ u w_ hk_ hJ hF K hK
       have h26 : u 26 = .bool false := AS.facts_get hF 26 (by simp)
       clear hF
       simp only [h26] at hK ⊢
       clear h26
       go_simp
       exact hK.out _ _ (Below.refl _ _) (rfl) trivial
      refine AS.sc rfl rfl rfl ?_ ?_
      ·intro k_ u w_ hk_ hJ hF K hK
       have h26 : u 26 = .bool false := AS.facts_get hF 26 (by simp)
       have h38 : u 38 = undef := AS.facts_get hF 38 (by simp)
       have h23 : u 23 = .bool false := AS.facts_get hF 23 (by simp)
       clear hF
       simp only [h26, h38, h23] at hK ⊢
       clear h26 h38 h23
       go_simp
       exact hK.out _ _ (Below.refl _ _) (rfl) trivial
      refine AS.sc rfl rfl rfl ?_ ?_
      ·intro k_ u w_ hk_ hJ hF K hK
       have h23 : u 23 = .bool false := AS.facts_get hF 23 (by simp)
       have h39 : u 39 = .bool false := AS.facts_get hF 39 (by simp)
       clear hF
       simp only [h23, h39] at hK ⊢
       clear h23 h39
       go_simp
       exact hK.out _ _ (Below.refl _ _) (rfl) trivial
      refine AS.sc rfl rfl rfl ?_ ?_
      ·intro k_ u w_ hk_ hJ hF K hK
       have h40 : u 40 = .bool false := AS.facts_get hF 40 (by simp)
       clear hF
       simp only [h40] at hK ⊢
       clear h40
       go_simp
       exact hK.out _ _ (Below.refl _ _) (rfl) trivial
      refine AS.sc rfl rfl rfl ?_ ?_
      ·intro k_ u w_ hk_ hJ hF K hK
       have h41 : u 41 = .bool false := AS.facts_get hF 41 (by simp)
       clear hF
       simp only [h41] at hK ⊢
       clear h41
       go_simp
       exact hK.out _ _ (Below.refl _ _) (rfl) trivial
      refine AS.sc rfl rfl rfl ?_ ?_
      ·intro k_ u w_ hk_ hJ hF K hK
       have h41 : u 41 = .bool false := AS.facts_get hF 41 (by simp)
       clear hF
       simp only [h41] at hK ⊢
       clear h41
       go_simp
       exact hK.out _ _ (Below.refl _ _) (rfl) trivial
      refine AS.sc rfl rfl rfl ?_ ?_
      ·intro k_ u w_ hk_ hJ hF K hK
       have h41 : u 41 = .bool false := AS.facts_get hF 41 (by simp)
       clear hF
       simp only [h41] at hK ⊢
       clear h41
       go_simp
       exact hK.out _ _ (Below.refl _ _) (rfl) trivial
      refine AS.sc rfl rfl rfl ?_ ?_
      ·intro k_ u w_ hk_ hJ hF K hK
       have h43 : u 43 = .slice (some ⟨b, off, none⟩) (n : Nat) cp := AS.facts_get hF 43 (by simp)
       have h44 : u 44 = .int .i64 (k : Int) := AS.facts_get hF 44 (by simp)
       have h41 : u 41 = .bool false := AS.facts_get hF 41 (by simp)
       clear hF
       simp only [h43, h44, h41] at hK ⊢
       clear h43 h44 h41
       go_simp
       exact hK.out _ _ (Below.refl _ _) (rfl) trivial
      refine AS.sc rfl rfl rfl ?_ ?_
      ·intro k_ u w_ hk_ hJ hF K hK
       have h45 : u 45 = .pointer (some ⟨b, off + k * 4, none⟩) := AS.facts_get hF 45 (by simp)
       have h41 : u 41 = .bool false := AS.facts_get hF 41 (by simp)
       clear hF
       simp only [h45, h41] at hK ⊢
       clear h45 h41
       go_simp
       exact hK.out _ _ (Below.refl _ _) (rfl) trivial
      refine AS.sc rfl rfl rfl ?_ ?_
      ·intro k_ u w_ hk_ hJ hF K hK
       have h46 : u 46 = .pointer (some ⟨b, off + k * 4, none⟩) := AS.facts_get hF 46 (by simp)
       have h41 : u 41 = .bool false := AS.facts_get hF 41 (by simp)
       clear hF
       simp only [h46, h41] at hK ⊢
       clear h46 h41
       obtain ⟨c0, c1, c2, c3⟩ := HX4.out.up (hJ : Below wr.heap.size wr w_) hbW
       go_simp
       exact hK.out _ _ (Below.refl _ _) (rfl) trivial
      refine AS.sc rfl rfl rfl ?_ ?_
      ·intro k_ u w_ hk_ hJ hF K hK
       have h42 : u 42 = .slice (some ⟨b, off, none⟩) (n : Nat) cp := AS.facts_get hF 42 (by simp)
       have h47 : u 47 = .int .i64 x.code := AS.facts_get hF 47 (by simp)
       have h41 : u 41 = .bool false := AS.facts_get hF 41 (by simp)
       clear hF
       simp only [h42, h47, h41] at hK ⊢
       clear h42 h47 h41
       have hz9 := HZW.out.up (hJ : Below wr.heap.size wr w_)
       go_simp
       refine (HCb.out _ hz9).mono ?_
       rintro e w3 ⟨v, rfl, h9, hb⟩
       exact hK.out _ _ hb h9 trivial
      refine AS.sc rfl rfl rfl ?_ ?_
      ·intro k_ u w_ hk_ hJ hF K hK
       have h48 : SlI w_ (u 48) C := AS.facts_get hF 48 (by simp)
       have h41 : u 41 = .bool false := AS.facts_get hF 41 (by simp)
       clear hF
       obtain ⟨A8, d8, h48, -⟩ := h48
       rw [HCL.out] at h48
       simp only [h48, h41] at hK ⊢
       clear h48 h41
       go_simp
       exact hK.out _ _ (Below.refl _ _) (rfl) trivial
      refine AS.sc rfl rfl rfl ?_ ?_
      ·intro k_ u w_ hk_ hJ hF K hK
       have h41 : u 41 = .bool false := AS.facts_get hF 41 (by simp)
       clear hF
       simp only [h41] at hK ⊢
       clear h41
       go_simp
       exact hK.out _ _ (Below.refl _ _) (rfl) trivial
      refine AS.sc rfl rfl rfl ?_ ?_
      ·intro k_ u w_ hk_ hJ hF K hK
       have h50 : u 50 = .slice (some ⟨b, off, none⟩) (n : Nat) cp := AS.facts_get hF 50 (by simp)
       have h41 : u 41 = .bool false := AS.facts_get hF 41 (by simp)
       clear hF
       simp only [h50, h41] at hK ⊢
       clear h50 h41
       go_simp
       exact hK.out _ _ (Below.refl _ _) (rfl) trivial
      refine AS.sc rfl rfl rfl ?_ ?_
      ·intro k_ u w_ hk_ hJ hF K hK
       have h49 : u 49 = .int .i64 (cl : Int) := AS.facts_get hF 49 (by simp)
       have h51 : u 51 = .int .i64 (n : Int) := AS.facts_get hF 51 (by simp)
       have h41 : u 41 = .bool false := AS.facts_get hF 41 (by simp)
       clear hF
       simp only [h49, h51, h41] at hK ⊢
       clear h49 h51 h41
       go_simp
       exact hK.out _ _ (Below.refl _ _) (rfl) trivial
      refine AS.sc rfl rfl rfl ?_ ?_
      ·intro k_ u w_ hk_ hJ hF K hK
       have h41 : u 41 = .bool false := AS.facts_get hF 41 (by simp)
       have h52 : u 52 = .bool q := AS.facts_get hF 52 (by simp)
       clear hF
       simp only [h41, h52] at hK ⊢
       clear h41 h52
       go_simp
       exact hK.out _ _ (Below.refl _ _) (rfl) trivial
      exact AS.StepsOk.nil
     ·intro u W9 hJ9 hF
      have h53 : u 53 = .bool q := AS.facts_get hF 53 (by simp [rvFb, AS.temps])
      have hB9 : Below wr.heap.size wr W9 := hJ9
      clear hF hJ9
      simp only [h53]
      clear h53
      cases q
      ·have HR2 : Hid (rowsTo L g (k + 1) = true) := Lib.hid (by rw [rowsTo, HR.out, HQ.out]; rfl)
       go_wp2_with fail
       go_roundg (n - (k + 1))
       case measure => omega
       case rel => exact ⟨k + 1, by go_num, by omega, by omega, HR2, hB.trans (hB9.mono hB.size)⟩
      ·have E : Hid (rvB L g = false) := Lib.hid (rvB_no (k := k) (by rw [HN.out]; exact hlt) HQ.out)
       go_wp2_with fail
       go_ret
       exact ⟨by rw [E.out]; rfl, hB.trans (hB9.mono hB.size)⟩
    ·obtain ⟨j, hj⟩ : ∃ j, k = j + 1 := ⟨k - 1, by omega⟩
     have hjn : j < n := by omega
     have hjz : (j : Int) < (n : Int) := by omega
     have hj1 : (k : Int) - 1 = (j : Int) := by omega
     have hj2 : IntKind.i64.wrap (j : Int) = (j : Int) := IntWalk.i64_in _ (by omega)
     have e2 : decide (0 < k) = true := decide_eq_true (by omega)
     obtain ⟨y, hy⟩ : ∃ y, L.getD j acc0 = y := ⟨_, rfl⟩
     have hy4 := HCS.out j (by rw [HN.out]; omega)
     rw [hy] at hy4
     have HY4 := Lib.hid hy4
     have HY := Lib.hid hy
     have HJ := Lib.hid hj
     clear hy4 hy hj hk0
     rcases Int.lt_or_le y.code x.code with h8 | h8
     ·have HQ : Hid (rowB L g k = !q) := Lib.hid (by
       have h1 := HX.out
       rw [HJ.out] at h1 ⊢
       rw [rowB_up (by rw [h1]; exact HP.out) (by rw [h1, HY.out]; exact h8), h1]; exact HTQ.out)
      have e3 : decide (x.code ≤ y.code) = false := decide_eq_false (by omega)
      clear h8
      refine AS.region_facts (rvFd b off n k j cp g x y C cl q) (HNo wr) [[], [], [], [16, 17], [18], [], [15, 19, 20], [21], [22], [23], [24, 23], [25, 23], [26], [26], [27, 28, 26], [29, 26], [30, 26], [26], [26], [33, 26], [32, 34, 26], [35, 26], [36, 26], [31, 37, 26], [26, 38, 23], [23, 39], [40], [41], [41], [41], [43, 44, 41], [45, 41], [46, 41], [42, 47, 41], [48, 41], [41], [50, 41], [49, 51, 41], [41, 52]] [] [[]] [0, 0, 0, 0, 0, 0, 0, 0, 0, 0, 0, 0, 0, 0, 0, 0, 0, 0, 0, 0, 0, 0, 0, 0, 0, 0, 0, 0, 0, 0, 0, 0, 0, 0, 0, 0, 0, 0, 0] [] (fun u => by simp only [rvFd, AS.temps, List.map_cons, List.map_nil, fillL, List.setIfInBounds_toArray, List.set_cons_zero, List.set_cons_succ]; rfl) (by kernel_rfl) (by kernel_rfl) (HNo.st wr) (dc_drew (Below.refl _ _)) ?_ ?_
      ·refine AS.sc rfl rfl rfl ?_ ?_
       ·intro k_ u w_ hk_ hJ hF K hK
        clear hF
        go_simp
        exact hK.out _ _ (Below.refl _ _) (rfl) trivial
       refine AS.sc rfl rfl rfl ?_ ?_
       ·intro k_ u w_ hk_ hJ hF K hK
        clear hF
        go_simp
        exact hK.out _ _ (Below.refl _ _) (rfl) trivial
       refine AS.sc rfl rfl rfl ?_ ?_
       ·intro k_ u w_ hk_ hJ hF K hK
        clear hF
        go_simp
        exact hK.out _ _ (Below.refl _ _) (rfl) trivial
       refine AS.sc rfl rfl rfl ?_ ?_
       ·intro k_ u w_ hk_ hJ hF K hK
        have h16 : u 16 = .slice (some ⟨b, off, none⟩) (n : Nat) cp := AS.facts_get hF 16 (by simp)
        have h17 : u 17 = .int .i64 (k : Int) := AS.facts_get hF 17 (by simp)
        clear hF
        simp only [h16, h17] at hK ⊢
        clear h16 h17
        go_simp
        exact hK.out _ _ (Below.refl _ _) (rfl) trivial
       refine AS.sc rfl rfl rfl ?_ ?_
       ·intro k_ u w_ hk_ hJ hF K hK
        have h18 : u 18 = .pointer (some ⟨b, off + k * 4, none⟩) := AS.facts_get hF 18 (by simp)
        clear hF
        simp only [h18] at hK ⊢
        clear h18
        obtain ⟨c0, c1, c2, c3⟩ := HX4.out.up (hJ : Below wr.heap.size wr w_) hbW
        go_simp
        exact hK.out _ _ (Below.refl _ _) (rfl) trivial
       refine AS.sc rfl rfl rfl ?_ ?_
       ·intro k_ u w_ hk_ hJ hF K hK
        clear hF
        go_simp
        exact hK.out _ _ (Below.refl _ _) (rfl) trivial
       refine AS.sc rfl rfl rfl ?_ ?_
       ·intro k_ u w_ hk_ hJ hF K hK
        have h15 : u 15 = .slice (some ⟨b, off, none⟩) (n : Nat) cp := AS.facts_get hF 15 (by simp)
        have h19 : u 19 = accV x := AS.facts_get hF 19 (by simp)
        have h20 : u 20 = .bool g := AS.facts_get hF 20 (by simp)
        clear hF
        simp only [h15, h19, h20] at hK ⊢
        clear h15 h19 h20
        have hz9 := HZW.out.up (hJ : Below wr.heap.size wr w_)
        go_simp
        refine (HPr.out _ hz9).mono ?_
        rintro e w3 ⟨rfl, hb⟩
        exact hK.out _ _ hb (rfl) trivial
       refine AS.sc rfl rfl rfl ?_ ?_
       ·intro k_ u w_ hk_ hJ hF K hK
        have h21 : u 21 = .bool true := AS.facts_get hF 21 (by simp)
        clear hF
        simp only [h21] at hK ⊢
        clear h21
        go_simp
        exact hK.out _ _ (Below.refl _ _) (rfl) trivial
       refine AS.sc rfl rfl rfl ?_ ?_
       ·intro k_ u w_ hk_ hJ hF K hK
        have h22 : u 22 = .bool false := AS.facts_get hF 22 (by simp)
        clear hF
        simp only [h22] at hK ⊢
        clear h22
        go_simp
        exact hK.out _ _ (Below.refl _ _) (rfl) trivial
       refine AS.sc rfl rfl rfl ?_ ?_
       ·intro k_ u w_ hk_ hJ hF K hK
        have h23 : u 23 = .bool false := AS.facts_get hF 23 (by simp)
        clear hF
        simp only [h23] at hK ⊢
        clear h23
        go_simp
        exact hK.out _ _ (Below.refl _ _) (rfl) trivial
       refine AS.sc rfl rfl rfl ?_ ?_
       ·intro k_ u w_ hk_ hJ hF K hK
        have h24 : u 24 = .int .i64 (k : Int) := AS.facts_get hF 24 (by simp)
        have h23 : u 23 = .bool false := AS.facts_get hF 23 (by simp)
        clear hF
        simp only [h24, h23] at hK ⊢
        clear h24 h23
        go_simp
        exact hK.out _ _ (Below.refl _ _) (rfl) trivial
       refine AS.sc rfl rfl rfl ?_ ?_
       ·intro k_ u w_ hk_ hJ hF K hK
        have h25 : u 25 = .bool true := AS.facts_get hF 25 (by simp)
        have h23 : u 23 = .bool false := AS.facts_get hF 23 (by simp)
        clear hF
        simp only [h25, h23] at hK ⊢
        clear h25 h23
        go_simp
        exact hK.out _ _ (Below.refl _ _) (rfl) trivial
       refine AS.sc rfl rfl rfl ?_ ?_
       ·intro k_ u w_ hk_ hJ hF K hK
        have h26 : u 26 = .bool true := AS.facts_get hF 26 (by simp)
        clear hF
        simp only [h26] at hK ⊢
        clear h26
        go_simp
        exact hK.out _ _ (Below.refl _ _) (rfl) trivial
       refine AS.sc rfl rfl rfl ?_ ?_
       ·intro k_ u w_ hk_ hJ hF K hK
        have h26 : u 26 = .bool true := AS.facts_get hF 26 (by simp)
        clear hF
        simp only [h26] at hK ⊢
        clear h26
        go_simp
        exact hK.out _ _ (Below.refl _ _) (rfl) trivial
       refine AS.sc rfl rfl rfl ?_ ?_
       ·intro k_ u w_ hk_ hJ hF K hK
        have h27 : u 27 = .slice (some ⟨b, off, none⟩) (n : Nat) cp := AS.facts_get hF 27 (by simp)
        have h28 : u 28 = .int .i64 (k : Int) := AS.facts_get hF 28 (by simp)
        have h26 : u 26 = .bool true := AS.facts_get hF 26 (by simp)
        clear hF
        simp only [h27, h28, h26] at hK ⊢
        clear h27 h28 h26
        go_simp
        exact hK.out _ _ (Below.refl _ _) (rfl) trivial
       refine AS.sc rfl rfl rfl ?_ ?_
       ·intro k_ u w_ hk_ hJ hF K hK
        have h29 : u 29 = .pointer (some ⟨b, off + k * 4, none⟩) := AS.facts_get hF 29 (by simp)
        have h26 : u 26 = .bool true := AS.facts_get hF 26 (by simp)
        clear hF
        simp only [h29, h26] at hK ⊢
        clear h29 h26
        go_simp
        exact hK.out _ _ (Below.refl _ _) (rfl) trivial
       refine AS.sc rfl rfl rfl ?_ ?_
       ·intro k_ u w_ hk_ hJ hF K hK
        have h30 : u 30 = .pointer (some ⟨b, off + k * 4, none⟩) := AS.facts_get hF 30 (by simp)
        have h26 : u 26 = .bool true := AS.facts_get hF 26 (by simp)
        clear hF
        simp only [h30, h26] at hK ⊢
        clear h30 h26
        obtain ⟨c0, c1, c2, c3⟩ := HX4.out.up (hJ : Below wr.heap.size wr w_) hbW
        go_simp
        exact hK.out _ _ (Below.refl _ _) (rfl) trivial
       refine AS.sc rfl rfl rfl ?_ ?_
       ·intro k_ u w_ hk_ hJ hF K hK
        have h26 : u 26 = .bool true := AS.facts_get hF 26 (by simp)
        clear hF
        simp only [h26] at hK ⊢
        clear h26
        go_simp
        exact hK.out _ _ (Below.refl _ _) (rfl) trivial
       refine AS.sc rfl rfl rfl ?_ ?_
       ·intro k_ u w_ hk_ hJ hF K hK
        have h26 : u 26 = .bool true := AS.facts_get hF 26 (by simp)
        clear hF
        simp only [h26] at hK ⊢
        clear h26
        go_simp
        exact hK.out _ _ (Below.refl _ _) (rfl) trivial
       refine AS.sc rfl rfl rfl ?_ ?_
       ·intro k_ u w_ hk_ hJ hF K hK
        have h33 : u 33 = .int .i64 (k : Int) := AS.facts_get hF 33 (by simp)
        have h26 : u 26 = .bool true := AS.facts_get hF 26 (by simp)
        clear hF
        simp only [h33, h26] at hK ⊢
        clear h33 h26
        go_simp
        exact hK.out _ _ (Below.refl _ _) (rfl) trivial
       refine AS.sc rfl rfl rfl ?_ ?_
       ·intro k_ u w_ hk_ hJ hF K hK
        have h32 : u 32 = .slice (some ⟨b, off, none⟩) (n : Nat) cp := AS.facts_get hF 32 (by simp)
        have h34 : u 34 = .int .i64 (j : Int) := AS.facts_get hF 34 (by simp)
        have h26 : u 26 = .bool true := AS.facts_get hF 26 (by simp)
        clear hF
        simp only [h32, h34, h26] at hK ⊢
        clear h32 h34 h26
        go_simp
        exact hK.out _ _ (Below.refl _ _) (rfl) trivial
       refine AS.sc rfl rfl rfl ?_ ?_
       ·intro k_ u w_ hk_ hJ hF K hK
        have h35 : u 35 = .pointer (some ⟨b, off + j * 4, none⟩) := AS.facts_get hF 35 (by simp)
        have h26 : u 26 = .bool true := AS.facts_get hF 26 (by simp)
        clear hF
        simp only [h35, h26] at hK ⊢
        clear h35 h26
        go_simp
        exact hK.out _ _ (Below.refl _ _) (rfl) trivial
       refine AS.sc rfl rfl rfl ?_ ?_
       ·intro k_ u w_ hk_ hJ hF K hK
        have h36 : u 36 = .pointer (some ⟨b, off + j * 4, none⟩) := AS.facts_get hF 36 (by simp)
        have h26 : u 26 = .bool true := AS.facts_get hF 26 (by simp)
        clear hF
        simp only [h36, h26] at hK ⊢
        clear h36 h26
        obtain ⟨c0, c1, c2, c3⟩ := HY4.out.up (hJ : Below wr.heap.size wr w_) hbW
        go_simp
        exact hK.out _ _ (Below.refl _ _) (rfl) trivial
       refine AS.sc rfl rfl rfl ?_ ?_
       ·intro k_ u w_ hk_ hJ hF K hK
        have h31 : u 31 = .int .i64 x.code := AS.facts_get hF 31 (by simp)
        have h37 : u 37 = .int .i64 y.code := AS.facts_get hF 37 (by simp)
        have h26 : u 26 = .bool true := AS.facts_get hF 26 (by simp)
        clear hF
        simp only [h31, h37, h26] at hK ⊢
        clear h31 h37 h26
        go_simp
        exact hK.out _ _ (Below.refl _ _) (rfl) trivial
       refine AS.sc rfl rfl rfl ?_ ?_
       ·intro k_ u w_ hk_ hJ hF K hK
        have h26 : u 26 = .bool true := AS.facts_get hF 26 (by simp)
        have h38 : u 38 = .bool false := AS.facts_get hF 38 (by simp)
        have h23 : u 23 = .bool false := AS.facts_get hF 23 (by simp)
        clear hF
        simp only [h26, h38, h23] at hK ⊢
        clear h26 h38 h23
        go_simp
        exact hK.out _ _ (Below.refl _ _) (rfl) trivial
       refine AS.sc rfl rfl rfl ?_ ?_
       ·intro k_ u w_ hk_ hJ hF K hK
        have h23 : u 23 = .bool false := AS.facts_get hF 23 (by simp)
        have h39 : u 39 = .bool false := AS.facts_get hF 39 (by simp)
        clear hF
        simp only [h23, h39] at hK ⊢
        clear h23 h39
        go_simp
        exact hK.out _ _ (Below.refl _ _) (rfl) trivial
       refine AS.sc rfl rfl rfl ?_ ?_
       ·intro k_ u w_ hk_ hJ hF K hK
        have h40 : u 40 = .bool false := AS.facts_get hF 40 (by simp)
        clear hF
        simp only [h40] at hK ⊢
        clear h40
        go_simp
        exact hK.out _ _ (Below.refl _ _) (rfl) trivial
       refine AS.sc rfl rfl rfl ?_ ?_
       ·intro k_ u w_ hk_ hJ hF K hK
        have h41 : u 41 = .bool false := AS.facts_get hF 41 (by simp)
        clear hF
        simp only [h41] at hK ⊢
        clear h41
        go_simp
        exact hK.out _ _ (Below.refl _ _) (rfl) trivial
       refine AS.sc rfl rfl rfl ?_ ?_
       ·intro k_ u w_ hk_ hJ hF K hK
        have h41 : u 41 = .bool false := AS.facts_get hF 41 (by simp)
        clear hF
        simp only [h41] at hK ⊢
        clear h41
        go_simp
        exact hK.out _ _ (Below.refl _ _) (rfl) trivial
       refine AS.sc rfl rfl rfl ?_ ?_
       ·intro k_ u w_ hk_ hJ hF K hK
        have h41 : u 41 = .bool false := AS.facts_get hF 41 (by simp)
        clear hF
        simp only [h41] at hK ⊢
        clear h41
        go_simp
        exact hK.out _ _ (Below.refl _ _) (rfl) trivial
       refine AS.sc rfl rfl rfl ?_ ?_
       ·intro k_ u w_ hk_ hJ hF K hK
        have h43 : u 43 = .slice (some ⟨b, off, none⟩) (n : Nat) cp := AS.facts_get hF 43 (by simp)
        have h44 : u 44 = .int .i64 (k : Int) := AS.facts_get hF 44 (by simp)
        have h41 : u 41 = .bool false := AS.facts_get hF 41 (by simp)
        clear hF
        simp only [h43, h44, h41] at hK ⊢
        clear h43 h44 h41
        go_simp
        exact hK.out _ _ (Below.refl _ _) (rfl) trivial
       refine AS.sc rfl rfl rfl ?_ ?_
       ·intro k_ u w_ hk_ hJ hF K hK
        have h45 : u 45 = .pointer (some ⟨b, off + k * 4, none⟩) := AS.facts_get hF 45 (by simp)
        have h41 : u 41 = .bool false := AS.facts_get hF 41 (by simp)
        clear hF
        simp only [h45, h41] at hK ⊢
        clear h45 h41
        go_simp
        exact hK.out _ _ (Below.refl _ _) (rfl) trivial
       refine AS.sc rfl rfl rfl ?_ ?_
       ·intro k_ u w_ hk_ hJ hF K hK
        have h46 : u 46 = .pointer (some ⟨b, off + k * 4, none⟩) := AS.facts_get hF 46 (by simp)
        have h41 : u 41 = .bool false := AS.facts_get hF 41 (by simp)
        clear hF
        simp only [h46, h41] at hK ⊢
        clear h46 h41
        obtain ⟨c0, c1, c2, c3⟩ := HX4.out.up (hJ : Below wr.heap.size wr w_) hbW
        go_simp
        exact hK.out _ _ (Below.refl _ _) (rfl) trivial
       refine AS.sc rfl rfl rfl ?_ ?_
       ·intro k_ u w_ hk_ hJ hF K hK
        have h42 : u 42 = .slice (some ⟨b, off, none⟩) (n : Nat) cp := AS.facts_get hF 42 (by simp)
        have h47 : u 47 = .int .i64 x.code := AS.facts_get hF 47 (by simp)
        have h41 : u 41 = .bool false := AS.facts_get hF 41 (by simp)
        clear hF
        simp only [h42, h47, h41] at hK ⊢
        clear h42 h47 h41
        have hz9 := HZW.out.up (hJ : Below wr.heap.size wr w_)
        go_simp
        refine (HCb.out _ hz9).mono ?_
        rintro e w3 ⟨v, rfl, h9, hb⟩
        exact hK.out _ _ hb h9 trivial
       refine AS.sc rfl rfl rfl ?_ ?_
       ·intro k_ u w_ hk_ hJ hF K hK
        have h48 : SlI w_ (u 48) C := AS.facts_get hF 48 (by simp)
        have h41 : u 41 = .bool false := AS.facts_get hF 41 (by simp)
        clear hF
        obtain ⟨A8, d8, h48, -⟩ := h48
        rw [HCL.out] at h48
        simp only [h48, h41] at hK ⊢
        clear h48 h41
        go_simp
        exact hK.out _ _ (Below.refl _ _) (rfl) trivial
       refine AS.sc rfl rfl rfl ?_ ?_
       ·intro k_ u w_ hk_ hJ hF K hK
        have h41 : u 41 = .bool false := AS.facts_get hF 41 (by simp)
        clear hF
        simp only [h41] at hK ⊢
        clear h41
        go_simp
        exact hK.out _ _ (Below.refl _ _) (rfl) trivial
       refine AS.sc rfl rfl rfl ?_ ?_
       ·intro k_ u w_ hk_ hJ hF K hK
        have h50 : u 50 = .slice (some ⟨b, off, none⟩) (n : Nat) cp := AS.facts_get hF 50 (by simp)
        have h41 : u 41 = .bool false := AS.facts_get hF 41 (by simp)
        clear hF
        simp only [h50, h41] at hK ⊢
        clear h50 h41
        go_simp
        exact hK.out _ _ (Below.refl _ _) (rfl) trivial
       refine AS.sc rfl rfl rfl ?_ ?_
       ·intro k_ u w_ hk_ hJ hF K hK
        have h49 : u 49 = .int .i64 (cl : Int) := AS.facts_get hF 49 (by simp)
        have h51 : u 51 = .int .i64 (n : Int) := AS.facts_get hF 51 (by simp)
        have h41 : u 41 = .bool false := AS.facts_get hF 41 (by simp)
        clear hF
        simp only [h49, h51, h41] at hK ⊢
        clear h49 h51 h41
        go_simp
        exact hK.out _ _ (Below.refl _ _) (rfl) trivial
       refine AS.sc rfl rfl rfl ?_ ?_
       ·intro k_ u w_ hk_ hJ hF K hK
        have h41 : u 41 = .bool false := AS.facts_get hF 41 (by simp)
        have h52 : u 52 = .bool q := AS.facts_get hF 52 (by simp)
        clear hF
        simp only [h41, h52] at hK ⊢
        clear h41 h52
        go_simp
        exact hK.out _ _ (Below.refl _ _) (rfl) trivial
       exact AS.StepsOk.nil
      ·intro u W9 hJ9 hF
       have h53 : u 53 = .bool q := AS.facts_get hF 53 (by simp [rvFd, AS.temps])
       have hB9 : Below wr.heap.size wr W9 := hJ9
       clear hF hJ9
       simp only [h53]
       clear h53
       cases q
       ·have HR2 : Hid (rowsTo L g (k + 1) = true) := Lib.hid (by rw [rowsTo, HR.out, HQ.out]; rfl)
        go_wp2_with fail
        go_roundg (n - (k + 1))
        case measure => omega
        case rel => exact ⟨k + 1, by go_num, by omega, by omega, HR2, hB.trans (hB9.mono hB.size)⟩
       ·have E : Hid (rvB L g = false) := Lib.hid (rvB_no (k := k) (by rw [HN.out]; exact hlt) HQ.out)
        go_wp2_with fail
        go_ret
        exact ⟨by rw [E.out]; rfl, hB.trans (hB9.mono hB.size)⟩
     ·have E : Hid (rvB L g = false) := Lib.hid (rvB_no (k := k) (by rw [HN.out]; exact hlt) (by
       have h1 := HX.out
       rw [HJ.out] at h1 ⊢
       exact rowB_down (by rw [h1, HY.out]; exact h8)))
      have e3 : decide (x.code ≤ y.code) = true := decide_eq_true h8
      clear h8 hq
      refine AS.region_facts (rvFc b off n k j cp g x y) (HNo wr) [[], [], [], [16, 17], [18], [], [15, 19, 20], [21], [22], [23], [24, 23], [25, 23], [26], [26], [27, 28, 26], [29, 26], [30, 26], [26], [26], [33, 26], [32, 34, 26], [35, 26], [36, 26], [31, 37, 26], [26, 38, 23], [23, 39], [40], [41], [41], [41], [41], [41], [41], [41], [41], [41], [41], [41], [41, 52]] [] [[]] [0, 0, 0, 0, 0, 0, 0, 0, 0, 0, 0, 0, 0, 0, 0, 0, 0, 0, 0, 0, 0, 0, 0, 0, 0, 0, 0, 0, 0, 0, 0, 0, 0, 0, 0, 0, 0, 0, 0] [] (fun u => by simp only [rvFc, AS.temps, List.map_cons, List.map_nil, fillL, List.setIfInBounds_toArray, List.set_cons_zero, List.set_cons_succ]; rfl) (by kernel_rfl) (by kernel_rfl) (HNo.st wr) (dc_drew (Below.refl _ _)) ?_ ?_
      ·refine AS.sc rfl rfl rfl ?_ ?_
       ·intro k_ u w_ hk_ hJ hF K hK
        clear hF
        go_simp
        exact hK.out _ _ (Below.refl _ _) (rfl) trivial
       refine AS.sc rfl rfl rfl ?_ ?_
       ·intro k_ u w_ hk_ hJ hF K hK
        clear hF
        go_simp
        exact hK.out _ _ (Below.refl _ _) (rfl) trivial
       refine AS.sc rfl rfl rfl ?_ ?_
       ·intro k_ u w_ hk_ hJ hF K hK
        clear hF
        go_simp
        exact hK.out _ _ (Below.refl _ _) (rfl) trivial
       refine AS.sc rfl rfl rfl ?_ ?_
       ·intro k_ u w_ hk_ hJ hF K hK
        have h16 : u 16 = .slice (some ⟨b, off, none⟩) (n : Nat) cp := AS.facts_get hF 16 (by simp)
        have h17 : u 17 = .int .i64 (k : Int) := AS.facts_get hF 17 (by simp)
        clear hF
        simp only [h16, h17] at hK ⊢
        clear h16 h17
        go_simp
        exact hK.out _ _ (Below.refl _ _) (rfl) trivial
       refine AS.sc rfl rfl rfl ?_ ?_
       ·intro k_ u w_ hk_ hJ hF K hK
        have h18 : u 18 = .pointer (some ⟨b, off + k * 4, none⟩) := AS.facts_get hF 18 (by simp)
        clear hF
        simp only [h18] at hK ⊢
        clear h18
        obtain ⟨c0, c1, c2, c3⟩ := HX4.out.up (hJ : Below wr.heap.size wr w_) hbW
        go_simp
        exact hK.out _ _ (Below.refl _ _) (rfl) trivial
       refine AS.sc rfl rfl rfl ?_ ?_
       ·intro k_ u w_ hk_ hJ hF K hK
        clear hF
        go_simp
        exact hK.out _ _ (Below.refl _ _) (rfl) trivial
       refine AS.sc rfl rfl rfl ?_ ?_
       ·intro k_ u w_ hk_ hJ hF K hK
        have h15 : u 15 = .slice (some ⟨b, off, none⟩) (n : Nat) cp := AS.facts_get hF 15 (by simp)
        have h19 : u 19 = accV x := AS.facts_get hF 19 (by simp)
        have h20 : u 20 = .bool g := AS.facts_get hF 20 (by simp)
        clear hF
        simp only [h15, h19, h20] at hK ⊢
        clear h15 h19 h20
        have hz9 := HZW.out.up (hJ : Below wr.heap.size wr w_)
        go_simp
        refine (HPr.out _ hz9).mono ?_
        rintro e w3 ⟨rfl, hb⟩
        exact hK.out _ _ hb (rfl) trivial
       refine AS.sc rfl rfl rfl ?_ ?_
       ·intro k_ u w_ hk_ hJ hF K hK
        have h21 : u 21 = .bool true := AS.facts_get hF 21 (by simp)
        clear hF
        simp only [h21] at hK ⊢
        clear h21
        go_simp
        exact hK.out _ _ (Below.refl _ _) (rfl) trivial
       refine AS.sc rfl rfl rfl ?_ ?_
       ·intro k_ u w_ hk_ hJ hF K hK
        have h22 : u 22 = .bool false := AS.facts_get hF 22 (by simp)
        clear hF
        simp only [h22] at hK ⊢
        clear h22
        go_simp
        exact hK.out _ _ (Below.refl _ _) (rfl) trivial
       refine AS.sc rfl rfl rfl ?_ ?_
       ·intro k_ u w_ hk_ hJ hF K hK
        have h23 : u 23 = .bool false := AS.facts_get hF 23 (by simp)
        clear hF
        simp only [h23] at hK ⊢
        clear h23
        go_simp
        exact hK.out _ _ (Below.refl _ _) (rfl) trivial
       refine AS.sc rfl rfl rfl ?_ ?_
       ·intro k_ u w_ hk_ hJ hF K hK
        have h24 : u 24 = .int .i64 (k : Int) := AS.facts_get hF 24 (by simp)
        have h23 : u 23 = .bool false := AS.facts_get hF 23 (by simp)
        clear hF
        simp only [h24, h23] at hK ⊢
        clear h24 h23
        go_simp
        exact hK.out _ _ (Below.refl _ _) (rfl) trivial
       refine AS.sc rfl rfl rfl ?_ ?_
       ·intro k_ u w_ hk_ hJ hF K hK
        have h25 : u 25 = .bool true := AS.facts_get hF 25 (by simp)
        have h23 : u 23 = .bool false := AS.facts_get hF 23 (by simp)
        clear hF
        simp only [h25, h23] at hK ⊢
        clear h25 h23
        go_simp
        exact hK.out _ _ (Below.refl _ _) (rfl) trivial
       refine AS.sc rfl rfl rfl ?_ ?_
       ·intro k_ u w_ hk_ hJ hF K hK
        have h26 : u 26 = .bool true := AS.facts_get hF 26 (by simp)
        clear hF
        simp only [h26] at hK ⊢
        clear h26
        go_simp
        exact hK.out _ _ (Below.refl _ _) (rfl) trivial
       refine AS.sc rfl rfl rfl ?_ ?_
       ·intro k_ u w_ hk_ hJ hF K hK
        have h26 : u 26 = .bool true := AS.facts_get hF 26 (by simp)
        clear hF
        simp only [h26] at hK ⊢
        clear h26
        go_simp
        exact hK.out _ _ (Below.refl _ _) (rfl) trivial
       refine AS.sc rfl rfl rfl ?_ ?_
       ·intro k_ u w_ hk_ hJ hF K hK
        have h27 : u 27 = .slice (some ⟨b, off, none⟩) (n : Nat) cp := AS.facts_get hF 27 (by simp)
        have h28 : u 28 = .int .i64 (k : Int) := AS.facts_get hF 28 (by simp)
        have h26 : u 26 = .bool true := AS.facts_get hF 26 (by simp)
        clear hF
        simp only [h27, h28, h26] at hK ⊢
        clear h27 h28 h26
        go_simp
        exact hK.out _ _ (Below.refl _ _) (rfl) trivial
       refine AS.sc rfl rfl rfl ?_ ?_
       ·intro k_ u w_ hk_ hJ hF K hK
        have h29 : u 29 = .pointer (some ⟨b, off + k * 4, none⟩) := AS.facts_get hF 29 (by simp)
        have h26 : u 26 = .bool true := AS.facts_get hF 26 (by simp)
        clear hF
        simp only [h29, h26] at hK ⊢
        clear h29 h26
        go_simp
        exact hK.out _ _ (Below.refl _ _) (rfl) trivial
       refine AS.sc rfl rfl rfl ?_ ?_
       ·intro k_ u w_ hk_ hJ hF K hK
        have h30 : u 30 = .pointer (some ⟨b, off + k * 4, none⟩) := AS.facts_get hF 30 (by simp)
        have h26 : u 26 = .bool true := AS.facts_get hF 26 (by simp)
        clear hF
        simp only [h30, h26] at hK ⊢
        clear h30 h26
        obtain ⟨c0, c1, c2, c3⟩ := HX4.out.up (hJ : Below wr.heap.size wr w_) hbW
        go_simp
        exact hK.out _ _ (Below.refl _ _) (rfl) trivial
       refine AS.sc rfl rfl rfl ?_ ?_
       ·intro k_ u w_ hk_ hJ hF K hK
        have h26 : u 26 = .bool true := AS.facts_get hF 26 (by simp)
        clear hF
        simp only [h26] at hK ⊢
        clear h26
        go_simp
        exact hK.out _ _ (Below.refl _ _) (rfl) trivial
       refine AS.sc rfl rfl rfl ?_ ?_
       ·intro k_ u w_ hk_ hJ hF K hK
        have h26 : u 26 = .bool true := AS.facts_get hF 26 (by simp)
        clear hF
        simp only [h26] at hK ⊢
        clear h26
        go_simp
        exact hK.out _ _ (Below.refl _ _) (rfl) trivial
       refine AS.sc rfl rfl rfl ?_ ?_
       ·intro k_ u w_ hk_ hJ hF K hK
        have h33 : u 33 = .int .i64 (k : Int) := AS.facts_get hF 33 (by simp)
        have h26 : u 26 = .bool true := AS.facts_get hF 26 (by simp)
        clear hF
        simp only [h33, h26] at hK ⊢
        clear h33 h26
        go_simp
        exact hK.out _ _ (Below.refl _ _) (rfl) trivial
       refine AS.sc rfl rfl rfl ?_ ?_
       ·intro k_ u w_ hk_ hJ hF K hK
        have h32 : u 32 = .slice (some ⟨b, off, none⟩) (n : Nat) cp := AS.facts_get hF 32 (by simp)
        have h34 : u 34 = .int .i64 (j : Int) := AS.facts_get hF 34 (by simp)
        have h26 : u 26 = .bool true := AS.facts_get hF 26 (by simp)
        clear hF
        simp only [h32, h34, h26] at hK ⊢
        clear h32 h34 h26
        go_simp
        exact hK.out _ _ (Below.refl _ _) (rfl) trivial
       refine AS.sc rfl rfl rfl ?_ ?_
       ·intro k_ u w_ hk_ hJ hF K hK
        have h35 : u 35 = .pointer (some ⟨b, off + j * 4, none⟩) := AS.facts_get hF 35 (by simp)
        have h26 : u 26 = .bool true := AS.facts_get hF 26 (by simp)
        clear hF
        simp only [h35, h26] at hK ⊢
        clear h35 h26
        go_simp
        exact hK.out _ _ (Below.refl _ _) (rfl) trivial
       refine AS.sc rfl rfl rfl ?_ ?_
       ·intro k_ u w_ hk_ hJ hF K hK
        have h36 : u 36 = .pointer (some ⟨b, off + j * 4, none⟩) := AS.facts_get hF 36 (by simp)
        have h26 : u 26 = .bool true := AS.facts_get hF 26 (by simp)
        clear hF
        simp only [h36, h26] at hK ⊢
        clear h36 h26
        obtain ⟨c0, c1, c2, c3⟩ := HY4.out.up (hJ : Below wr.heap.size wr w_) hbW
        go_simp
        exact hK.out _ _ (Below.refl _ _) (rfl) trivial
       refine AS.sc rfl rfl rfl ?_ ?_
       ·intro k_ u w_ hk_ hJ hF K hK
        have h31 : u 31 = .int .i64 x.code := AS.facts_get hF 31 (by simp)
        have h37 : u 37 = .int .i64 y.code := AS.facts_get hF 37 (by simp)
        have h26 : u 26 = .bool true := AS.facts_get hF 26 (by simp)
        clear hF
        simp only [h31, h37, h26] at hK ⊢
        clear h31 h37 h26
        go_simp
        exact hK.out _ _ (Below.refl _ _) (rfl) trivial
       refine AS.sc rfl rfl rfl ?_ ?_
       ·intro k_ u w_ hk_ hJ hF K hK
        have h26 : u 26 = .bool true := AS.facts_get hF 26 (by simp)
        have h38 : u 38 = .bool true := AS.facts_get hF 38 (by simp)
        have h23 : u 23 = .bool false := AS.facts_get hF 23 (by simp)
        clear hF
        simp only [h26, h38, h23] at hK ⊢
        clear h26 h38 h23
        go_simp
        exact hK.out _ _ (Below.refl _ _) (rfl) trivial
       refine AS.sc rfl rfl rfl ?_ ?_
       ·intro k_ u w_ hk_ hJ hF K hK
        have h23 : u 23 = .bool false := AS.facts_get hF 23 (by simp)
        have h39 : u 39 = .bool true := AS.facts_get hF 39 (by simp)
        clear hF
        simp only [h23, h39] at hK ⊢
        clear h23 h39
        go_simp
        exact hK.out _ _ (Below.refl _ _) (rfl) trivial
       refine AS.sc rfl rfl rfl ?_ ?_
       ·intro k_ u w_ hk_ hJ hF K hK
        have h40 : u 40 = .bool true := AS.facts_get hF 40 (by simp)
        clear hF
        simp only [h40] at hK ⊢
        clear h40
        go_simp
        exact hK.out _ _ (Below.refl _ _) (rfl) trivial
       refine AS.sc rfl rfl rfl ?_ ?_
       ·intro k_ u w_ hk_ hJ hF K hK
        have h41 : u 41 = .bool true := AS.facts_get hF 41 (by simp)
        clear hF
        simp only [h41] at hK ⊢
        clear h41
        go_simp
        exact hK.out _ _ (Below.refl _ _) (rfl) trivial
       refine AS.sc rfl rfl rfl ?_ ?_
       ·intro k_ u w_ hk_ hJ hF K hK
        have h41 : u 41 = .bool true := AS.facts_get hF 41 (by simp)
        clear hF
        simp only [h41] at hK ⊢
        clear h41
        go_simp
        exact hK.out _ _ (Below.refl _ _) (rfl) trivial
       refine AS.sc rfl rfl rfl ?_ ?_
       ·intro k_ u w_ hk_ hJ hF K hK
        have h41 : u 41 = .bool true := AS.facts_get hF 41 (by simp)
        clear hF
        simp only [h41] at hK ⊢
        clear h41
        go_simp
        exact hK.out _ _ (Below.refl _ _) (rfl) trivial
       refine AS.sc rfl rfl rfl ?_ ?_
       ·intro k_ u w_ hk_ hJ hF K hK
        have h41 : u 41 = .bool true := AS.facts_get hF 41 (by simp)
        clear hF
        simp only [h41] at hK ⊢
        clear h41
        go_simp
        exact hK.out _ _ (Below.refl _ _) (rfl) trivial
       refine AS.sc rfl rfl rfl ?_ ?_
       ·intro k_ u w_ hk_ hJ hF K hK
        have h41 : u 41 = .bool true := AS.facts_get hF 41 (by simp)
        clear hF
        simp only [h41] at hK ⊢
        clear h41
        go_simp
        exact hK.out _ _ (Below.refl _ _) (rfl) trivial
       refine AS.sc rfl rfl rfl ?_ ?_
       ·intro k_ u w_ hk_ hJ hF K hK
        have h41 : u 41 = .bool true := AS.facts_get hF 41 (by simp)
        clear hF
        simp only [h41] at hK ⊢
        clear h41
        go_simp
        exact hK.out _ _ (Below.refl _ _) (rfl) trivial
       refine AS.sc rfl rfl rfl ?_ ?_
       ·intro k_ u w_ hk_ hJ hF K hK
        have h41 : u 41 = .bool true := AS.facts_get hF 41 (by simp)
        clear hF
        simp only [h41] at hK ⊢
        clear h41
        go_simp
        exact hK.out _ _ (Below.refl _ _) (rfl) trivial
       refine AS.sc rfl rfl rfl ?_ ?_
       ·intro k_ u w_ hk_ hJ hF K hK
        have h41 : u 41 = .bool true := AS.facts_get hF 41 (by simp)
        clear hF
        simp only [h41] at hK ⊢
        clear h41
        go_simp
        exact hK.out _ _ (Below.refl _ _) (rfl) trivial
       refine AS.sc rfl rfl rfl ?_ ?_
       ·intro k_ u w_ hk_ hJ hF K hK
        have h41 : u 41 = .bool true := AS.facts_get hF 41 (by simp)
        clear hF
        simp only [h41] at hK ⊢
        clear h41
        go_simp
        exact hK.out _ _ (Below.refl _ _) (rfl) trivial
       refine AS.sc rfl rfl rfl ?_ ?_
       ·intro k_ u w_ hk_ hJ hF K hK
        have h41 : u 41 = .bool true := AS.facts_get hF 41 (by simp)
        clear hF
        simp only [h41] at hK ⊢
        clear h41
        go_simp
        exact hK.out _ _ (Below.refl _ _) (rfl) trivial
       refine AS.sc rfl rfl rfl ?_ ?_
       ·intro k_ u w_ hk_ hJ hF K hK
        have h41 : u 41 = .bool true := AS.facts_get hF 41 (by simp)
        clear hF
        simp only [h41] at hK ⊢
        clear h41
        go_simp
        exact hK.out _ _ (Below.refl _ _) (rfl) trivial
       refine AS.sc rfl rfl rfl ?_ ?_
       ·intro k_ u w_ hk_ hJ hF K hK
        have h41 : u 41 = .bool true := AS.facts_get hF 41 (by simp)
        have h52 : u 52 = undef := AS.facts_get hF 52 (by simp)
        clear hF
        simp only [h41, h52] at hK ⊢
        clear h41 h52
        go_simp
        exact hK.out _ _ (Below.refl _ _) (rfl) trivial
       exact AS.StepsOk.nil
      ·intro u W9 hJ9 hF
       have h53 : u 53 = .bool true := AS.facts_get hF 53 (by simp [rvFc, AS.temps])
       have hB9 : Below wr.heap.size wr W9 := hJ9
       clear hF hJ9
       simp only [h53]
       clear h53
       go_wp2_with fail
       go_ret
       exact ⟨by rw [E.out]; rfl, hB.trans (hB9.mono hB.size)⟩
  ·obtain rfl : k = n := by omega
   have hltz : ¬ (k : Int) < (k : Int) := by omega
   have E : Hid (rvB L g = true) := Lib.hid (by rw [HV.out]; exact HR.out)
   go_wp2_with fail
   go_ret
   exact ⟨by rw [E.out]; rfl, hB⟩
def sel (p : Acc → Bool) (L : List Acc) : List Int := (L.filter p).map Acc.code
theorem sel_succ {p : Acc → Bool} {L : List Acc} {k : Nat} (hk : k < L.length) : sel p (L.take (k + 1)) = if p (L.getD k acc0) = true then sel p (L.take k) ++ [(L.getD k acc0).code] else sel p (L.take k) := by
 rw [take_succ_getD (d := acc0) hk]
 unfold sel
 rw [List.filter_append, List.map_append]
 generalize L.getD k acc0 = x
 split
 ·rename_i h; rw [List.filter_cons_of_pos h]; rfl
 ·rename_i h; rw [List.filter_cons_of_neg h]; simp
theorem sel_len {p : Acc → Bool} {L : List Acc} : (sel p L).length ≤ L.length := by unfold sel; rw [List.length_map]; exact List.length_filter_le _ _
def undB (L : List Acc) (c : Int) (a : Acc) : Bool := decide (c ∈ climb L a.code)
def undL (L : List Acc) (c : Int) : List Int := if eiB L then sel (undB L c) L else []
set_option maxRecDepth 20000 in
set_option maxHeartbeats 3200000 in
theorem cunder_any (A : Option Addr) (cp : Nat) (L : List Acc) (c : Int) (w : World) (hz : AccAt w A L) (hl : L.length ≤ 1000) :
  Calls Try.prog 19 #[.slice A L.length cp, .int .i64 c] w fun e w' => ∃ v, e = .returned v ∧ SlI w' v (undL L c) ∧ Below w.heap.size w w' := by
 have hB := Below.refl w.heap.size w
 have h1 := fun w h => cischart_any A cp L w h hl
 cases he : eiB L
 ·have E := Lib.hid (show undL L c = [] by unfold undL; rw [he]; rfl)
  rw [he] at h1
  generalize L.length = n at *
  have H1 := Lib.hid h1
  have HZ := Lib.hid hz
  clear h1 he hz
  go_enter Try.func19, Try.ntmps19
  go_wp2_with (go_at_call 36; refine (H1.out _ (HZ.out.up hB)).mono ?_; rintro e w1 ⟨rfl, hb⟩; replace hB := below_more hB hb; clear hb)
  go_ret
  exact ⟨_, rfl, by rw [E.out]; exact SlI.nil, hB⟩
 have E := Lib.hid (show undL L c = sel (undB L c) L by unfold undL; rw [he]; rfl)
 have hG := eiB_good he
 rw [he] at h1
 have hbe := fun x hx w h => cbelongs_any A cp L x c w h hl hG hx
 have hfs := fun k h => sel_succ (p := undB L c) (L := L) (k := k) h
 obtain ⟨P, hP⟩ : ∃ P, undB L c = P := ⟨_, rfl⟩
 have hbe2 : ∀ x, x ∈ L → ∀ w, AccAt w A L → Calls Try.prog 37 #[.slice A L.length cp, accV x, .int .i64 c] w fun e w' => e = .returned (.bool (P x)) ∧ Below w.heap.size w w' := by
  intro x hx w h
  rw [← hP]
  exact hbe x hx w h
 rw [hP] at E hfs
 obtain ⟨n, hn⟩ : ∃ n, L.length = n := ⟨_, rfl⟩
 obtain ⟨s0, hs0⟩ : ∃ s0, w.heap.size = s0 := ⟨_, rfl⟩
 rw [hn] at hl h1 hbe2 hfs ⊢
 have HN := Lib.hid hn
 have HZ := Lib.hid hz
 have HS0 := Lib.hid hs0
 have H1 := Lib.hid h1
 have HBE := Lib.hid hbe2
 have HFS := Lib.hid hfs
 obtain ⟨i0, hi, hz0, hz1, hz2⟩ := info_parts infoI_int
 clear hn hz hs0 h1 hbe hbe2 hfs he hG hP
 go_enter Try.func19, Try.ntmps19
 go_wp2_with (go_at_call 36; refine (H1.out _ (HZ.out.up hB)).mono ?_; rintro e w1 ⟨rfl, hb⟩; replace hB := below_more hB hb; clear hb)
 rw [HS0.out] at hB
 have hO : Hid (OwnI .i64 3 w1 s0 (.slice none 0 0) (sel P (L.take 0))) := Lib.hid OwnI.nil
 go_loopg [5, 13] n (fun kx s5 s13 wr => ∃ k : Nat, s13 = .int .i64 k ∧ k ≤ n ∧ n - k ≤ kx ∧ Hid (OwnI .i64 3 wr s0 s5 (sel P (L.take k))) ∧ Below s0 w wr)
 case atStart => exact ⟨0, rfl, by omega, by omega, hO, hB⟩
 case round =>
  clear hB hO
  obtain ⟨k, rfl, hk, hkx, hO, hB⟩ := hrel
  have hsz : s0 ≤ wr.heap.size := by have := hB.size; have := HS0.out; omega
  by_cases hlt : k < n
  ·have hltz : (k : Int) < (n : Int) := by omega
   obtain ⟨b, off, rfl, hbw, hcs⟩ := HZ.out (by rw [HN.out]; omega)
   have hbs : b < s0 := by have := HS0.out; omega
   obtain ⟨c0, c1, c2, c3⟩ := (hcs k (by rw [HN.out]; exact hlt)).up hB hbs
   obtain ⟨x, hx⟩ : ∃ x, L.getD k acc0 = x := ⟨_, rfl⟩
   have hxm : x ∈ L := by rw [← hx]; exact getD_mem_acc (by rw [HN.out]; exact hlt)
   have hf := HFS.out k hlt
   rw [hx] at c0 c1 c2 c3 hf
   have hln : Hid ((sel P (L.take k)).length ≤ 100000000) := Lib.hid (by have := sel_len (p := P) (L := L.take k); rw [List.length_take] at this; omega)
   have HB1 : Hid (Below s0 w (wr.alloc (.cells #[.int .i64 x.code, .int .i64 x.kind, .int .i64 x.basis, .int .i64 x.par] 26))) := Lib.hid (hB.alloc hsz _)
   have HO1 := Lib.hid (hO.out.alloc (.cells #[.int .i64 x.code, .int .i64 x.kind, .int .i64 x.basis, .int .i64 x.par] 26))
   have HAB := Lib.hid (ab_new wr 26 x)
   have hbx := HBE.out x hxm (wr.alloc (.cells #[.int .i64 x.code, .int .i64 x.kind, .int .i64 x.basis, .int .i64 x.par] 26)) (HZ.out.up (by rw [HS0.out]; exact HB1.out))
   clear hx hcs hB hO
   cases hq : P x
   ·rw [hq, if_neg (by simp)] at hf
    rw [hq] at hbx
    have HBX := Lib.hid hbx
    have HF := Lib.hid hf
    clear hbx hf hq
    go_wp2_with (go_at_call 37; refine HBX.out.mono ?_; rintro e w2 ⟨rfl, hb⟩; have hB := HB1.out.trans (hb.mono (by (simp; omega))); have ho := (HO1.out.up hb); rw [← HF.out] at ho; replace ho := Lib.hid ho; clear hb)
    go_roundg (n - (k + 1))
    case measure => omega
    case rel => exact ⟨k + 1, by go_num, by omega, by omega, ho, hB⟩
   ·rw [hq, if_pos rfl] at hf
    rw [hq] at hbx
    have HBX := Lib.hid hbx
    have HF := Lib.hid hf
    clear hbx hf hq
    go_wp2_with (first
     | (go_at_call 37; refine HBX.out.mono ?_; rintro e w2 ⟨rfl, hb⟩; have hB := HB1.out.trans (hb.mono (by (simp; omega))); have ho := Lib.hid (HO1.out.up hb); replace HAB := Lib.hid (HAB.out.up hb); obtain ⟨⟨z0, z1, z2, z3⟩, zlt, -⟩ := HAB.out; have hsz2 : s0 ≤ w2.heap.size := (by (have := hB.size; have := HS0.out; omega)); clear hb)
     | (at_builtin; refine wpList_append_ig _ rfl (.tmp 21) (.tmp 24) 30 rfl .i64 s0 3 i0 8 Try.underlying30 hi hz0 hz1 hz2 (by omega) u5 _ (by rfl) ho.out x.code _ 1 (by first | rfl | simp) rfl hln.out hsz2 ?_; intro v2 w3 ho2 hb2; replace ho2 := ho2.out; rw [← HF.out] at ho2; replace ho2 := Lib.hid ho2; replace hB := hB.trans hb2; clear hb2))
    go_roundg (n - (k + 1))
    case measure => omega
    case rel => exact ⟨k + 1, by go_num, by omega, by omega, ho2, hB⟩
  ·obtain rfl : k = n := by omega
   have hltz : ¬ (k : Int) < (k : Int) := by omega
   have ho := hO.out.sli
   rw [List.take_of_length_le (by rw [HN.out]; omega)] at ho
   have HO := Lib.hid ho
   clear ho
   go_wp2_with fail
   go_ret
   exact ⟨_, rfl, by rw [E.out]; exact HO.out, by rw [HS0.out]; exact hB⟩
theorem reither_any (A : Option Addr) (cp : Nat) (L : List Acc) (w : World) (hz : AccAt w A L) (hl : L.length ≤ 1000) :
  Calls Try.prog 26 #[.slice A L.length cp] w fun e w' => e = .returned (.bool (eiB L)) ∧ Below w.heap.size w w' := by
 have hB := Below.refl w.heap.size w
 have h1 := fun g w h => rvalid8_any A cp L g w h hl
 have he : eiB L = (rvB L true || rvB L false) := by unfold eiB; rw [vB_eq, vB_eq, Bool.or_comm]
 rw [he]
 have HZ := Lib.hid hz
 generalize L.length = n at *
 clear hz he
 cases hf : rvB L true
 ·have h2 := h1 true
  rw [hf] at h2
  have H1 := Lib.hid h1
  have H2 := Lib.hid h2
  clear h1 h2 hf
  go_enter Try.func26, Try.ntmps26
  go_wp2_with (first | (go_at_call 12; ((with_reducible refine (H2.out _ (HZ.out.up hB)).mono ?_)); rintro e w1 ⟨rfl, hb⟩; replace hB := below_more hB hb; clear hb) | (go_at_call 12; ((with_reducible refine (H1.out _ _ (HZ.out.up hB)).mono ?_)); rintro e w1 ⟨rfl, hb⟩; replace hB := below_more hB hb; clear hb))
  go_ret
  exact ⟨rfl, hB⟩
 ·have h2 := h1 true
  rw [hf] at h2
  have H2 := Lib.hid h2
  clear h1 h2 hf
  go_enter Try.func26, Try.ntmps26
  go_wp2_with (go_at_call 12; refine (H2.out _ (HZ.out.up hB)).mono ?_; rintro e w1 ⟨rfl, hb⟩; replace hB := below_more hB hb; clear hb)
  go_ret
  exact ⟨rfl, hB⟩
theorem chfew_any (A B : Option Addr) (n m c d : Nat) (w : World) : Calls Try.prog 18 #[.slice A n c, .slice B m d] w fun e w' => e = .returned (.bool (decide (n ≤ 60) && decide (m ≤ 60))) ∧ w = w' := by
 rcases Nat.lt_or_ge 60 n with h | h
 ·have h1 : decide (n ≤ 60) = false := decide_eq_false (by omega)
  have h2 : decide ((n : Int) ≤ 60) = false := decide_eq_false (by omega)
  rw [h1]
  go_enter Try.func18, Try.ntmps18
  go_wp2_with fail
  go_ret
  exact ⟨rfl, rfl⟩
 ·have h1 : decide (n ≤ 60) = true := decide_eq_true (by omega)
  have h2 : decide ((n : Int) ≤ 60) = true := decide_eq_true (by omega)
  rcases Nat.lt_or_ge 60 m with h' | h'
  ·have h3 : decide (m ≤ 60) = false := decide_eq_false (by omega)
   have h4 : decide ((m : Int) ≤ 60) = false := decide_eq_false (by omega)
   rw [h1, h3]
   clear h h'
   go_enter Try.func18, Try.ntmps18
   go_wp2_with fail
   go_ret
   exact ⟨rfl, rfl⟩
  ·have h3 : decide (m ≤ 60) = true := decide_eq_true (by omega)
   have h4 : decide ((m : Int) ≤ 60) = true := decide_eq_true (by omega)
   rw [h1, h3]
   clear h h'
   go_enter Try.func18, Try.ntmps18
   go_wp2_with fail
   go_ret
   exact ⟨rfl, rfl⟩
def sumI {α : Type} (l : List α) (f : α → Int) : Int := (l.map f).sum
theorem sumI_nil {α : Type} {f : α → Int} : sumI [] f = 0 := rfl
theorem sumI_cons {α : Type} {a : α} {l : List α} {f : α → Int} : sumI (a :: l) f = f a + sumI l f := by simp [sumI]
theorem sumI_app {α : Type} {l m : List α} {f : α → Int} : sumI (l ++ m) f = sumI l f + sumI m f := by simp [sumI]
theorem sumI_congr {α : Type} {l : List α} {f g : α → Int} (h : ∀ x ∈ l, f x = g x) : sumI l f = sumI l g := by unfold sumI; rw [List.map_congr_left h]
theorem sumI_zero {α : Type} : ∀ {l : List α} {f : α → Int}, (∀ x ∈ l, f x = 0) → sumI l f = 0
 | [], _, _ => rfl
 | a :: l, f, h => by rw [sumI_cons, h a (List.mem_cons_self ..), sumI_zero fun x hx => h x (List.mem_cons_of_mem _ hx)]; rfl
theorem sumI_add {α : Type} : ∀ {l : List α} {f g : α → Int}, sumI l (fun x => f x + g x) = sumI l f + sumI l g
 | [], _, _ => rfl
 | a :: l, f, g => by rw [sumI_cons, sumI_cons, sumI_cons, sumI_add]; omega
theorem sumI_mul {α : Type} {z : Int} : ∀ {l : List α} {f : α → Int}, sumI l (fun x => f x * z) = sumI l f * z
 | [], _ => by simp [sumI]
 | a :: l, f => by rw [sumI_cons, sumI_cons, sumI_mul, Int.add_mul]
theorem sumI_swap {α β : Type} {m : List β} {f : α → β → Int} : ∀ {l : List α}, sumI l (fun x => sumI m (f x)) = sumI m (fun y => sumI l (fun x => f x y))
 | [] => by rw [sumI_nil]; exact (sumI_zero fun _ _ => rfl).symm
 | a :: l => by
  rw [sumI_cons, sumI_swap, ← sumI_add]
  exact sumI_congr fun y _ => (sumI_cons (f := fun x => f x y)).symm
theorem sumI_map {α β : Type} {h : α → β} {l : List α} {f : β → Int} : sumI (l.map h) f = sumI l (fun x => f (h x)) := by unfold sumI; rw [List.map_map]; rfl
theorem sumI_filter {α : Type} {p : α → Bool} : ∀ {l : List α} {f : α → Int}, sumI (l.filter p) f = sumI l (fun x => if p x = true then f x else 0)
 | [], _ => rfl
 | a :: l, f => by
  rw [sumI_cons, List.filter_cons]
  split
  ·rw [sumI_cons, sumI_filter]
  ·rw [sumI_filter]; omega
theorem sumI_len {α : Type} {l : List α} : (l.length : Int) = sumI l (fun _ => 1) := by
 induction l with
 | nil => rfl
 | cons a l ih => rw [sumI_cons, ← ih]; simp; omega
def inI (c : Int) (l : List Int) : Int := if c ∈ l then 1 else 0
def eqI (x c : Int) : Int := if x = c then 1 else 0
theorem Srt.pair {L : List Acc} (h : Srt L) : L.Pairwise (fun x y => x.code ≠ y.code) := by
 rw [List.pairwise_iff_getElem]
 intro i j hi hj hij
 have := h.mono i j hij hj
 rw [List.getD_eq_getElem?_getD, List.getD_eq_getElem?_getD, List.getElem?_eq_getElem hi, List.getElem?_eq_getElem hj] at this
 simp only [Option.getD_some] at this
 omega
theorem sum_uniq {g : Acc → Int} : ∀ {L : List Acc}, L.Pairwise (fun x y => x.code ≠ y.code) → ∀ {a : Acc}, a ∈ L → sumI L (fun x => if x.code = a.code then g x else 0) = g a
 | [], _, a, h => by cases h
 | x :: L, hp, a, h => by
  rw [List.pairwise_cons] at hp
  rw [sumI_cons]
  rcases List.mem_cons.1 h with rfl | h
  ·rw [if_pos rfl, sumI_zero fun y hy => by rw [if_neg (fun e => hp.1 y hy e.symm)]]; omega
  ·rw [if_neg (hp.1 a h), sum_uniq hp.2 h]; omega
theorem Srt.uniq {L : List Acc} (h : Srt L) {g : Acc → Int} {a : Acc} (ha : a ∈ L) : sumI L (fun x => if x.code = a.code then g x else 0) = g a := sum_uniq h.pair ha
theorem kids_sum {L : List Acc} {c : Int} {f : Int → Int} : sumI (kids L c) f = sumI L (fun x => if x.par = c then f x.code else 0) := by
 unfold kids
 rw [sumI_map, sumI_filter]
 exact sumI_congr fun x _ => by simp
theorem kids_at {L : List Acc} (h : Srt L) {c : Int} {a : Acc} (ha : a ∈ L) : sumI (kids L c) (fun k => eqI k a.code) = eqI a.par c := by
 rw [kids_sum]
 rw [show (fun x : Acc => if x.par = c then eqI x.code a.code else 0) = fun x => if x.code = a.code then (if x.par = c then 1 else 0) else 0 from funext fun x => by unfold eqI; split <;> split <;> rfl]
 rw [h.uniq (g := fun x => if x.par = c then 1 else 0) ha]
 rfl
theorem climb_step {L : List Acc} (hG : Good L) {a : Acc} (ha : a ∈ L) (k : Int) : inI k (climb L a.code) = eqI k a.code + inI k (climb L a.par) := by
 have hf := hG.srt.fnd_mem ha
 have hc := climb_some hf (hG.ends _)
 have hn := climb_nodup (hG.ends a.code)
 rw [hc] at hn ⊢
 rw [List.nodup_cons] at hn
 unfold inI eqI
 by_cases h : k = a.code
 ·subst h; rw [if_pos (List.mem_cons_self ..), if_pos rfl, if_neg hn.1]; omega
 ·rw [if_neg h]
  by_cases h2 : k ∈ climb L a.par
  ·rw [if_pos (List.mem_cons_of_mem _ h2), if_pos h2]; omega
  ·rw [if_neg h2, if_neg (fun h3 => (List.mem_cons.1 h3).elim h h2)]; omega
theorem climb_len {L : List Acc} (hG : Good L) {a : Acc} (ha : a ∈ L) : (climb L a.code).length = (climb L a.par).length + 1 := by
 rw [climb_some (hG.srt.fnd_mem ha) (hG.ends _)]; rfl
theorem eqI_comm {x y : Int} : eqI x y = eqI y x := by
 unfold eqI
 by_cases h : x = y
 ·rw [if_pos h, if_pos h.symm]
 ·rw [if_neg h, if_neg (fun e => h e.symm)]
theorem tree_at {L : List Acc} (hG : Good L) {c : Int} (hc : ∃ a ∈ L, a.code = c) : ∀ (n : Nat) (x : Int), (climb L x).length ≤ n → inI c (climb L x) = eqI x c + sumI (kids L c) (fun k => inI k (climb L x)) := by
 intro n
 induction n with
 | zero =>
  intro x hx
  have h0 : climb L x = [] := List.eq_nil_of_length_eq_zero (by omega)
  rw [h0]
  have hxc : x ≠ c := by
   rintro rfl
   obtain ⟨a, ha, e⟩ := hc
   have := climb_len hG ha
   rw [e, h0] at this; simp at this
  rw [sumI_zero fun k _ => by unfold inI; simp]
  unfold inI eqI
  rw [if_neg hxc]; simp
 | succ n ih =>
  intro x hx
  cases hf : fnd L x with
  | none =>
   have h0 : climb L x = [] := climb_none hf
   exact ih x (by rw [h0]; simp)
  | some a =>
   obtain ⟨ha, e⟩ := fnd_some hf
   subst e
   have hl := climb_len hG ha
   have h1 := ih a.par (by omega)
   rw [climb_step hG ha c, h1, sumI_congr (fun k _ => climb_step hG ha k), sumI_add, kids_at hG.srt ha, eqI_comm (x := c)]
theorem und_count {L : List Acc} {c : Int} : ((sel (undB L c) L).length : Int) = sumI L (fun x => inI c (climb L x.code)) := by
 unfold sel
 rw [List.length_map, sumI_len, sumI_filter]
 exact sumI_congr fun x _ => by unfold undB inI; simp
theorem tree_count {L : List Acc} (hG : Good L) {a : Acc} (ha : a ∈ L) : ((sel (undB L a.code) L).length : Int) = 1 + sumI (kids L a.code) (fun k => ((sel (undB L k) L).length : Int)) := by
 rw [und_count, sumI_congr (fun x _ => tree_at hG ⟨a, ha, rfl⟩ _ x.code (Nat.le_refl _)), sumI_add, sumI_swap, sumI_congr (l := kids L a.code) (fun k _ => und_count.symm)]
 congr 1
 exact hG.srt.uniq (g := fun _ => 1) ha
theorem climb_at {L : List Acc} (hG : Good L) {c : Int} {k : Nat} (hk : k < (climb L c).length) :
  ∃ y, fnd L ((climb L c).getD k 0) = some y ∧ (k + 1 < (climb L c).length → y.par = (climb L c).getD (k + 1) 0) ∧ (k + 1 = (climb L c).length → y.par = 0) := by
 have hle := ends_climb (hG.ends c)
 have hd := climbN_drop (L := L) (n := L.length + 1) (c := c) hk
 change (climb L c).drop k = climbN L (L.length + 1 - k) ((climb L c).getD k 0) at hd
 generalize climb L c = full at *
 have hd2 := drop_getD (d := (0 : Int)) hk
 generalize full.getD k 0 = z at *
 cases hf : fnd L z with
 | none => rw [hd2, climbN_none hf] at hd; cases hd
 | some y =>
  refine ⟨y, rfl, ?_, ?_⟩
  ·intro hk2
   rw [hd2, show L.length + 1 - k = (L.length - k) + 1 by omega, climbN_some hf] at hd
   injection hd with _ hd
   rw [drop_getD (d := (0 : Int)) hk2] at hd
   rw [show L.length - k = (L.length - k - 1) + 1 by omega] at hd
   cases hp : fnd L y.par with
   | none => rw [climbN_none hp] at hd; cases hd
   | some p => rw [climbN_some hp] at hd; injection hd with hd _; exact hd.symm
  ·intro hk2
   rw [hd2, show L.length + 1 - k = (L.length - k) + 1 by omega, climbN_some hf] at hd
   injection hd with _ hd
   rw [List.drop_eq_nil_of_le (by omega), show L.length - k = (L.length - k - 1) + 1 by omega] at hd
   by_cases h0 : y.par = 0
   ·exact h0
   ·obtain ⟨p, hp⟩ := parentsB_fnd hG.pars (fnd_some hf).1 h0
    rw [climbN_some hp] at hd; cases hd
theorem climb_zero {L : List Acc} (hG : Good L) {a : Acc} (ha : a ∈ L) : 0 < (climb L a.code).length ∧ (climb L a.code).getD 0 0 = a.code := by
 rw [climb_some (hG.srt.fnd_mem ha) (hG.ends _)]
 exact ⟨by simp, rfl⟩
theorem climb_kind {L : List Acc} (hG : Good L) {a : Acc} (ha : a ∈ L) : ∀ (k : Nat), k < (climb L a.code).length → ∀ y, fnd L ((climb L a.code).getD k 0) = some y → y.kind = a.kind := by
 intro k
 induction k with
 | zero =>
  intro _ y hy
  rw [(climb_zero hG ha).2, hG.srt.fnd_mem ha] at hy
  injection hy with hy
  rw [hy]
 | succ k ih =>
  intro hk y hy
  obtain ⟨z, hz, h1, _⟩ := climb_at hG (c := a.code) (k := k) (by omega)
  have hzk := ih (by omega) z hz
  have hzm := (fnd_some hz).1
  rw [← h1 hk] at hy
  have hp := hG.pars
  unfold parentsB at hp
  rw [List.all_eq_true] at hp
  rcases parB_is.1 (hp z hzm) with h2 | ⟨p, h2, h3⟩
  ·rw [h2, hG.srt.fnd_zero] at hy; cases hy
  ·rw [h2] at hy; injection hy with hy; rw [← hy, h3, hzk]
theorem sel_mem {L : List Acc} (hS : Srt L) {P : Acc → Bool} {a : Acc} (ha : a ∈ L) : decide (a.code ∈ sel P L) = P a := by
 rw [Bool.eq_iff_iff, decide_eq_true_eq]
 unfold sel
 constructor
 ·intro h
  obtain ⟨z, hz, e⟩ := List.mem_map.1 h
  obtain ⟨hz1, hz2⟩ := List.mem_filter.1 hz
  have h1 := hS.fnd_mem hz1
  rw [e, hS.fnd_mem ha] at h1
  injection h1 with h1
  rw [h1]; exact hz2
 ·intro h; exact List.mem_map.2 ⟨a, List.mem_filter.2 ⟨ha, h⟩, rfl⟩
theorem two_ab (w : World) (t : TypeId) (a x : Acc) : AB ((w.alloc (.cells #[.int .i64 a.code, .int .i64 a.kind, .int .i64 a.basis, .int .i64 a.par] t)).alloc (.cells #[.int .i64 x.code, .int .i64 x.kind, .int .i64 x.basis, .int .i64 x.par] t)).drew w.heap.size a ∧
  AB ((w.alloc (.cells #[.int .i64 a.code, .int .i64 a.kind, .int .i64 a.basis, .int .i64 a.par] t)).alloc (.cells #[.int .i64 x.code, .int .i64 x.kind, .int .i64 x.basis, .int .i64 x.par] t)).drew (w.heap.size + 1) x ∧
  Below w.heap.size w ((w.alloc (.cells #[.int .i64 a.code, .int .i64 a.kind, .int .i64 a.basis, .int .i64 a.par] t)).alloc (.cells #[.int .i64 x.code, .int .i64 x.kind, .int .i64 x.basis, .int .i64 x.par] t)).drew := by
 have h1 := (ab_new w t a).up (below_alloc_new (.cells #[.int .i64 x.code, .int .i64 x.kind, .int .i64 x.basis, .int .i64 x.par] t))
 have h2 := ab_new (w.alloc (.cells #[.int .i64 a.code, .int .i64 a.kind, .int .i64 a.basis, .int .i64 a.par] t)) t x
 have e : (w.alloc (.cells #[.int .i64 a.code, .int .i64 a.kind, .int .i64 a.basis, .int .i64 a.par] t)).heap.size = w.heap.size + 1 := by simp
 rw [e] at h2
 exact ⟨⟨⟨h1.cells.c0, h1.cells.c1, h1.cells.c2, h1.cells.c3⟩, h1.lt, h1.fz⟩, ⟨⟨h2.cells.c0, h2.cells.c1, h2.cells.c2, h2.cells.c3⟩, h2.lt, h2.fz⟩, dc_drew (below_new (below_alloc_new _) _)⟩
theorem sumI_take {α : Type} {d : α} {l : List α} {f : α → Int} {k : Nat} (hk : k < l.length) : sumI (l.take (k + 1)) f = sumI (l.take k) f + f (l.getD k d) := by
 rw [take_succ_getD (d := d) hk, sumI_app, sumI_cons, sumI_nil]; omega
theorem sumI_bound {α : Type} {f : α → Int} : ∀ {l : List α} {k : Nat}, l.length ≤ k → (∀ x ∈ l, -1000000000000 ≤ f x ∧ f x ≤ 1000000000000) → -((k : Int) * 1000000000000) ≤ sumI l f ∧ sumI l f ≤ (k : Int) * 1000000000000
 | [], k, _, _ => by
  have : (0 : Int) ≤ (k : Int) * 1000000000000 := Int.mul_nonneg (by omega) (by decide)
  rw [sumI_nil]; omega
 | y :: l, 0, h, _ => by simp at h
 | y :: l, k + 1, h, hf => by
  have h1 := sumI_bound (f := f) (l := l) (k := k) (by simpa using h) fun x hx => hf x (List.mem_cons_of_mem _ hx)
  have h2 := hf y (List.mem_cons_self ..)
  rw [sumI_cons]
  have e : ((k + 1 : Nat) : Int) * 1000000000000 = 1000000000000 + (k : Int) * 1000000000000 := by rw [Int.natCast_add, Int.add_mul]; omega
  rw [e]
  generalize (k : Int) * 1000000000000 = T at *
  omega
theorem sumI_60 {α : Type} {f : α → Int} {l : List α} (h : l.length ≤ 60) (hf : ∀ x ∈ l, -1000000000000 ≤ f x ∧ f x ≤ 1000000000000) : -60000000000000 ≤ sumI l f ∧ sumI l f ≤ 60000000000000 := sumI_bound h hf
def ctF (b off len c pb poff nr pd g1 g2 : Nat) (a x : Acc) (U : List Int) (q : Bool) : List (Nat × AS.Fact) := [(51, AS.Fact.is (.slice (some ⟨pb, poff, none⟩) (nr : Nat) pd)), (52, AS.Fact.is (.pointer (some ⟨g2, 0, none⟩))), (53, AS.Fact.is (.int .i64 x.code)), (54, AS.Fact.is (.bool q)), (55, AS.Fact.is (.slice (some ⟨b, off, none⟩) (len : Nat) c)), (56, AS.Fact.is (.pointer (some ⟨g2, 0, none⟩))), (57, AS.Fact.is (.int .i64 x.code)), (58, HSl U), (59, AS.Fact.is (.pointer (some ⟨g1, 0, none⟩))), (60, AS.Fact.is (.int .i64 a.code)), (61, AS.Fact.is (.bool q)), (62, AS.Fact.is (.bool false)), (63, AS.Fact.is (.bool false)), (64, AS.Fact.is (.slice (some ⟨pb, poff, none⟩) (nr : Nat) pd)), (65, AS.Fact.is (.int .i64 (nr : Int))), (66, AS.Fact.is (.bool false)), (67, AS.Fact.is (.bool false)), (68, AS.Fact.is (.bool false)), (69, AS.Fact.is (.slice (some ⟨pb, poff, none⟩) (nr : Nat) pd)), (70, AS.Fact.is (.pointer (some ⟨pb, poff, none⟩))), (71, AS.Fact.is (.int .i64 a.code)), (72, AS.Fact.is (.pointer (some ⟨g1, 0, none⟩))), (73, AS.Fact.is (.int .i64 a.code)), (74, AS.Fact.is (.bool false)), (75, AS.Fact.is (.bool false))]
set_option maxRecDepth 20000 in
set_option maxHeartbeats 12800000 in
theorem law_chtree_far (A : Option Addr) (len c : Nat) (L : List Acc) (at1 at2 : Int) (w : World) (hlen : L.length = len) (hz : AccAt w A L) (h : 60 < len ∨ len = 0 ∨ eiB L = false) :
  Calls Try.prog 7 #[.slice A len c, .int .u8 at1, .int .u8 at2] w fun e w' => e = .returned (.bool true) ∧ Below w.heap.size w w' := by
 have hB := Below.refl w.heap.size w
 have HZ := Lib.hid hz
 clear hz
 have hf1 := fun w => chfew_any A none len 0 c 0 w
 by_cases h60 : 60 < len
 ·rw [decide_eq_false (show ¬ len ≤ 60 by omega)] at hf1
  have HF1 := Lib.hid hf1
  clear hf1 hlen h h60
  go_enter Try.func7, Try.ntmps7
  go_wp2_with (first
   | (go_at_call 10; refine (chawake_any _).mono ?_; rintro e w1 ⟨rfl, hb⟩; replace hB := below_more hB hb; clear hb)
   | (go_at_call 18; refine (HF1.out _).mono ?_; rintro e w2 ⟨rfl, rfl⟩))
  go_ret
  exact ⟨rfl, hB⟩
 ·rw [decide_eq_true (show len ≤ 60 by omega)] at hf1
  have HF1 := Lib.hid hf1
  by_cases h0 : len = 0
  ·have e0 : ((len : Int) == 0) = true := by simp [h0]
   clear hf1 hlen h h60 h0
   go_enter Try.func7, Try.ntmps7
   go_wp2_with (first
    | (go_at_call 10; refine (chawake_any _).mono ?_; rintro e w1 ⟨rfl, hb⟩; replace hB := below_more hB hb; clear hb)
    | (go_at_call 18; refine (HF1.out _).mono ?_; rintro e w2 ⟨rfl, rfl⟩))
   go_ret
   exact ⟨rfl, hB⟩
  ·have e0 : ((len : Int) == 0) = false := by simp [h0]
   have hei := fun w h => reither_any A c L w h (by omega)
   have heb : eiB L = false := by rcases h with h | h | h <;> first | omega | exact h
   rw [heb, hlen] at hei
   have HEI := Lib.hid hei
   clear hf1 hlen h h60 h0 hei heb
   go_enter Try.func7, Try.ntmps7
   go_wp2_with (first
    | (go_at_call 10; refine (chawake_any _).mono ?_; rintro e w1 ⟨rfl, hb⟩; replace hB := below_more hB hb; clear hb)
    | (go_at_call 18; refine (HF1.out _).mono ?_; rintro e w2 ⟨rfl, rfl⟩)
    | (go_at_call 26; refine (HEI.out _ (HZ.out.up hB)).mono ?_; rintro e w3 ⟨rfl, hb⟩; replace hB := below_more hB hb; clear hb))
   go_ret
   exact ⟨rfl, hB⟩
set_option maxRecDepth 20000 in
set_option maxHeartbeats 12800000 in
theorem law_chtree_near (A : Option Addr) (len c : Nat) (L : List Acc) (at1 at2 : Int) (w : World) (hlen : L.length = len) (hz : AccAt w A L) (h1 : 0 ≤ at1 ∧ at1 ≤ 255) (h2 : 0 ≤ at2 ∧ at2 ≤ 255) (h60 : len ≤ 60) (h0 : 0 < len) (he : eiB L = true) :
  Calls Try.prog 7 #[.slice A len c, .int .u8 at1, .int .u8 at2] w fun e w' => e = .returned (.bool true) ∧ Below w.heap.size w w' := by
 have hB := Below.refl w.heap.size w
 have HZ := Lib.hid hz
 clear hz
 have hG := eiB_good he
 obtain ⟨h1a, h1b⟩ := h1
 obtain ⟨h2a, h2b⟩ := h2
 have hf1 := fun w => chfew_any A none len 0 c 0 w
 rw [decide_eq_true h60] at hf1
 have HF1 := Lib.hid hf1
 have e0 : ((len : Int) == 0) = false := by simp; omega
 have hei := fun w h => reither_any A c L w h (by omega)
 rw [he, hlen] at hei
 have HEI := Lib.hid hei
 have HLN := Lib.hid hlen
 obtain ⟨i, hi⟩ : ∃ i : Nat, at1 % (len : Int) = (i : Int) := ⟨(at1 % (len : Int)).toNat, by have := Int.emod_nonneg at1 (show (len : Int) ≠ 0 by omega); omega⟩
 obtain ⟨j, hj⟩ : ∃ j : Nat, at2 % (len : Int) = (j : Int) := ⟨(at2 % (len : Int)).toNat, by have := Int.emod_nonneg at2 (show (len : Int) ≠ 0 by omega); omega⟩
 have hil : i < len := by have := Int.emod_lt_of_pos at1 (show (0 : Int) < (len : Int) by omega); omega
 have hjl : j < len := by have := Int.emod_lt_of_pos at2 (show (0 : Int) < (len : Int) by omega); omega
 have hilz : (i : Int) < (len : Int) := by omega
 have hjlz : (j : Int) < (len : Int) := by omega
 have hn1 : ¬ (len : Int) = 0 := by omega
 obtain ⟨b, off, rfl, hbw, hcs⟩ := HZ.out (by omega)
 obtain ⟨a, ha⟩ : ∃ a, L.getD i acc0 = a := ⟨_, rfl⟩
 obtain ⟨x, hx⟩ : ∃ x, L.getD j acc0 = x := ⟨_, rfl⟩
 have ha4 := hcs i (by omega)
 have hx4 := hcs j (by omega)
 have ham : a ∈ L := by rw [← ha]; exact getD_mem_acc (by omega)
 have hxm : x ∈ L := by rw [← hx]; exact getD_mem_acc (by omega)
 rw [ha] at ha4
 rw [hx] at hx4
 have hpth : pathL L a.code = climb L a.code := by unfold pathL; rw [he]; rfl
 have hund : ∀ z, undL L z = sel (undB L z) L := fun z => by unfold undL; rw [he]; rfl
 have hcp := fun w h => cpath_any (some ⟨b, off, none⟩) c L a.code w h (by omega)
 have hcu := fun z w h => cunder_any (some ⟨b, off, none⟩) c L z w h (by omega)
 have hck := fun w h => ckids_any (some ⟨b, off, none⟩) c L a.code w h (by omega)
 have hcf := fun z w h => cfind_any (some ⟨b, off, none⟩) c L z w h (by omega)
 rw [hpth, hlen] at hcp
 rw [hlen] at hcu hck hcf
 have hun := hcu x.code
 have hua := hcu a.code
 have hRl := ends_climb (hG.ends a.code)
 obtain ⟨hR0, hRz⟩ := climb_zero hG ham
 have hRat := fun k hk => climb_at hG (c := a.code) (k := k) hk
 have hRk := climb_kind hG ham
 have hq1 : decide (a.code ∈ sel (undB L x.code) L) = decide (x.code ∈ climb L a.code) := sel_mem hG.srt ham
 have hcnt := tree_count hG ham
 have hslen := fun z => sel_len (p := undB L z) (L := L)
 have hkl := kids_len (L := L) (c := a.code)
 rw [hund] at hun hua
 have hcu2 : ∀ z w, AccAt w (some ⟨b, off, none⟩) L → Calls Try.prog 19 #[.slice (some ⟨b, off, none⟩) len c, .int .i64 z] w fun e w' => ∃ v, e = .returned v ∧ SlI w' v (sel (undB L z) L) ∧ Below w.heap.size w w' := by
  intro z w h
  rw [← hund]
  exact hcu z w h
 rw [hlen] at hRl hslen hkl
 clear hcu hund hpth
 obtain ⟨R, hR⟩ : ∃ R, climb L a.code = R := ⟨_, rfl⟩
 rw [hR] at hcp hRl hR0 hRz hRat hRk hq1
 obtain ⟨nr, hnr⟩ : ∃ nr, R.length = nr := ⟨_, rfl⟩
 rw [hnr] at hRl hR0 hRat hRk
 obtain ⟨q, hq⟩ : ∃ q, decide (x.code ∈ R) = q := ⟨_, rfl⟩
 have hh1 := fun A d w h => rhas_any A d R x.code w h (by omega)
 obtain ⟨U, hU⟩ : ∃ U, sel (undB L x.code) L = U := ⟨_, rfl⟩
 have hUl := hslen x.code
 rw [hU] at hun hq1 hUl
 obtain ⟨nu, hnu⟩ : ∃ nu, U.length = nu := ⟨_, rfl⟩
 have hh2 := fun A d w h => rhas_any A d U a.code w h (by omega)
 rw [hnr, hq] at hh1
 rw [hnu, hq1, hq] at hh2
 obtain ⟨KD, hK9⟩ : ∃ KD, kids L a.code = KD := ⟨_, rfl⟩
 rw [hK9] at hck hkl hcnt
 obtain ⟨nk, hnk⟩ : ∃ nk, KD.length = nk := ⟨_, rfl⟩
 rw [hnk] at hkl
 obtain ⟨cn, hcn⟩ : ∃ cn : Int → Nat, (fun z => (sel (undB L z) L).length) = cn := ⟨_, rfl⟩
 have hcn2 : ∀ z, (sel (undB L z) L).length = cn z := fun z => congrFun hcn z
 have hcnb : ∀ z, cn z ≤ 60 := fun z => by rw [← hcn2]; have := hslen z; omega
 have hcnt2 : (cn a.code : Int) = 1 + sumI KD (fun k => (cn k : Int)) := by rw [← hcn2, hcnt]; congr 1; exact sumI_congr fun k _ => by rw [hcn2]
 have HA4 := Lib.hid ha4
 have HX4 := Lib.hid hx4
 have HCP := Lib.hid hcp
 have HUn := Lib.hid hun
 have HUa := Lib.hid hua
 have HCK := Lib.hid hck
 have HCF := Lib.hid hcf
 have HCU := Lib.hid hcu2
 have HRZ := Lib.hid hRz
 have HRA := Lib.hid hRat
 have HRK := Lib.hid hRk
 have HNR := Lib.hid hnr
 have HNU := Lib.hid hnu
 have HNK := Lib.hid hnk
 have HH1 := Lib.hid hh1
 have HH2 := Lib.hid hh2
 have HCN := Lib.hid hcn2
 have HCB := Lib.hid hcnb
 have HCT := Lib.hid hcnt2
 clear hf1 hlen he hei hcs ha4 hx4 ha hx hG ham hxm hcp hun hua hck hcf hcu2 hRz hRat hRk hq1 hcnt hslen hR hnr hq hh1 hU hUl hnu hh2 hK9 hnk hcn hcn2 hcnb hcnt2
 go_enter Try.func7, Try.ntmps7
 go_upto_region 5 with (first
  | (go_at_call 10; refine (chawake_any _).mono ?_; rintro e w1 ⟨rfl, hb⟩; replace hB := below_more hB hb; clear hb)
  | (go_at_call 18; refine (HF1.out _).mono ?_; rintro e w2 ⟨rfl, rfl⟩)
  | (go_at_call 26; refine (HEI.out _ (HZ.out.up hB)).mono ?_; rintro e w3 ⟨rfl, hb⟩; replace hB := below_more hB hb; clear hb))
 obtain ⟨c0, c1, c2, c3⟩ := HA4.out.up hB hbw
 obtain ⟨d0, d1, d2, d3⟩ := HX4.out.up hB hbw
 have hbw3 : b < w3.heap.size := Nat.lt_of_lt_of_le hbw hB.size
 go_region
 obtain ⟨p1, p2, p3⟩ := two_ab w3 26 a x
 have HG1 := Lib.hid p1
 have HG2 := Lib.hid p2
 replace hB := below_more hB p3
 clear c0 c1 c2 c3 d0 d1 d2 d3 p1 p2 p3 hbw3
 generalize World.drew _ = W1 at *
 obtain ⟨g1, hg1⟩ : ∃ g1, w3.heap.size = g1 := ⟨_, rfl⟩
 obtain ⟨g2, hg2⟩ : ∃ g2, w3.heap.size + 1 = g2 := ⟨_, rfl⟩
 rw [hg2] at HG2 ⊢
 rw [hg1] at HG1 ⊢
 clear hg1 hg2
 rotate_left
 obtain ⟨p2, p1, p3⟩ := two_ab w3 26 x a
 have HG1 := Lib.hid p1
 have HG2 := Lib.hid p2
 replace hB := below_more hB p3
 clear c0 c1 c2 c3 d0 d1 d2 d3 p1 p2 p3 hbw3
 generalize World.drew _ = W1 at *
 obtain ⟨g2, hg2⟩ : ∃ g2, w3.heap.size = g2 := ⟨_, rfl⟩
 obtain ⟨g1, hg1⟩ : ∃ g1, w3.heap.size + 1 = g1 := ⟨_, rfl⟩
 rw [hg1] at HG1 ⊢
 rw [hg2] at HG2 ⊢
 clear hg1 hg2
 all_goals
  obtain ⟨⟨y0, y1, y2, y3⟩, ylt, -⟩ := HG1.out
  go_wp2_with (go_at_call 21; refine (HCP.out _ (HZ.out.up hB)).mono ?_; rintro e W2 ⟨v1, rfl, ⟨A1, pd, hv1, hI1⟩, hb⟩; rw [HNR.out] at hv1; subst hv1; replace HG1 := Lib.hid (HG1.out.up hb); replace HG2 := Lib.hid (HG2.out.up hb); replace hB := below_more hB hb; clear hb y0 y1 y2 y3 ylt)
  obtain ⟨pb, poff, rfl, hpb, hpc⟩ := hI1 (by rw [HNR.out]; omega)
  have HIP := Lib.hid hI1
  have hp0 := hpc 0 (by rw [HNR.out]; omega)
  rw [HRZ.out, Nat.add_zero] at hp0
  have HP0 := Lib.hid hp0
  have HPC := Lib.hid hpc
  have HZW := Lib.hid (HZ.out.up hB)
  have enr : ((nr : Int) == 0) = false := by simp; omega
  have hnr0 : (0 : Int) < (nr : Int) := by omega
  clear hI1 hp0 hpc
  refine AS.region_facts (ctF b off len c pb poff nr pd g1 g2 a x U q) (HNo W2) [[], [], [52], [51, 53], [], [], [56], [55, 57], [], [59], [58, 60], [54, 61], [62], [63], [64, 63], [65, 63], [63, 66], [67], [68], [69, 68], [70, 68], [68], [72, 68], [71, 73, 68], [68, 74]] [] [[]] [0, 0, 0, 0, 0, 0, 0, 0, 0, 0, 0, 0, 0, 0, 0, 0, 0, 0, 0, 0, 0, 0, 0, 0, 0] [] (fun u => by simp only [ctF, AS.temps, List.map_cons, List.map_nil, fillL, List.setIfInBounds_toArray, List.set_cons_zero, List.set_cons_succ]; rfl) (by kernel_rfl) (by kernel_rfl) (HNo.st W2) (dc_drew (Below.refl _ _)) ?_ ?_
  ·refine AS.sc rfl rfl rfl ?_ ?_
   ·intro k_ u w_ hk_ hJ hF K hK
    clear hF
    go_simp
    exact hK.out _ _ (Below.refl _ _) (rfl) trivial
   refine AS.sc rfl rfl rfl ?_ ?_
   ·intro k_ u w_ hk_ hJ hF K hK
    clear hF
    go_simp
    exact hK.out _ _ (Below.refl _ _) (rfl) trivial
   refine AS.sc rfl rfl rfl ?_ ?_
   ·intro k_ u w_ hk_ hJ hF K hK
    have h52 : u 52 = .pointer (some ⟨g2, 0, none⟩) := AS.facts_get hF 52 (by simp)
    clear hF
    simp only [h52] at hK ⊢
    clear h52
    obtain ⟨⟨y0, y1, y2, y3⟩, ylt, -⟩ := HG2.out.up (hJ : Below W2.heap.size W2 w_)
    go_simp
    exact hK.out _ _ (Below.refl _ _) (rfl) trivial
   refine AS.sc rfl rfl rfl ?_ ?_
   ·intro k_ u w_ hk_ hJ hF K hK
    have h51 : u 51 = .slice (some ⟨pb, poff, none⟩) (nr : Nat) pd := AS.facts_get hF 51 (by simp)
    have h53 : u 53 = .int .i64 x.code := AS.facts_get hF 53 (by simp)
    clear hF
    simp only [h51, h53] at hK ⊢
    clear h51 h53
    have hp9 := HIP.out.up (hJ : Below W2.heap.size W2 w_)
    go_simp
    refine (HH1.out _ _ _ (hp9)).mono ?_
    rintro e w9 ⟨rfl, hw9⟩
    subst hw9
    exact hK.out _ _ (Below.refl _ _) (rfl) trivial
   refine AS.sc rfl rfl rfl ?_ ?_
   ·intro k_ u w_ hk_ hJ hF K hK
    clear hF
    go_simp
    exact hK.out _ _ (Below.refl _ _) (rfl) trivial
   refine AS.sc rfl rfl rfl ?_ ?_
   ·intro k_ u w_ hk_ hJ hF K hK
    clear hF
    go_simp
    exact hK.out _ _ (Below.refl _ _) (rfl) trivial
   refine AS.sc rfl rfl rfl ?_ ?_
   ·intro k_ u w_ hk_ hJ hF K hK
    have h56 : u 56 = .pointer (some ⟨g2, 0, none⟩) := AS.facts_get hF 56 (by simp)
    clear hF
    simp only [h56] at hK ⊢
    clear h56
    obtain ⟨⟨y0, y1, y2, y3⟩, ylt, -⟩ := HG2.out.up (hJ : Below W2.heap.size W2 w_)
    go_simp
    exact hK.out _ _ (Below.refl _ _) (rfl) trivial
   refine AS.sc rfl rfl rfl ?_ ?_
   ·intro k_ u w_ hk_ hJ hF K hK
    have h55 : u 55 = .slice (some ⟨b, off, none⟩) (len : Nat) c := AS.facts_get hF 55 (by simp)
    have h57 : u 57 = .int .i64 x.code := AS.facts_get hF 57 (by simp)
    clear hF
    simp only [h55, h57] at hK ⊢
    clear h55 h57
    have hz9 := HZW.out.up (hJ : Below W2.heap.size W2 w_)
    go_simp
    refine (HUn.out _ hz9).mono ?_
    rintro e w9 ⟨v, rfl, h9, hb⟩
    exact hK.out _ _ hb h9 trivial
   refine AS.sc rfl rfl rfl ?_ ?_
   ·intro k_ u w_ hk_ hJ hF K hK
    clear hF
    go_simp
    exact hK.out _ _ (Below.refl _ _) (rfl) trivial
   refine AS.sc rfl rfl rfl ?_ ?_
   ·intro k_ u w_ hk_ hJ hF K hK
    have h59 : u 59 = .pointer (some ⟨g1, 0, none⟩) := AS.facts_get hF 59 (by simp)
    clear hF
    simp only [h59] at hK ⊢
    clear h59
    obtain ⟨⟨y0, y1, y2, y3⟩, ylt, -⟩ := HG1.out.up (hJ : Below W2.heap.size W2 w_)
    go_simp
    exact hK.out _ _ (Below.refl _ _) (rfl) trivial
   refine AS.sc rfl rfl rfl ?_ ?_
   ·intro k_ u w_ hk_ hJ hF K hK
    have h58 : SlI w_ (u 58) U := AS.facts_get hF 58 (by simp)
    have h60 : u 60 = .int .i64 a.code := AS.facts_get hF 60 (by simp)
    clear hF
    obtain ⟨A8, d8, h58, hI8⟩ := h58
    rw [HNU.out] at h58
    simp only [h58, h60] at hK ⊢
    clear h58 h60
    go_simp
    refine (HH2.out _ _ _ (hI8)).mono ?_
    rintro e w9 ⟨rfl, hw9⟩
    subst hw9
    exact hK.out _ _ (Below.refl _ _) (rfl) trivial
   refine AS.sc rfl rfl rfl ?_ ?_
   ·intro k_ u w_ hk_ hJ hF K hK
    have h54 : u 54 = .bool q := AS.facts_get hF 54 (by simp)
    have h61 : u 61 = .bool q := AS.facts_get hF 61 (by simp)
    clear hF
    simp only [h54, h61] at hK ⊢
    clear h54 h61
    have eqq : (q != q) = false := by simp
    go_simp
    exact hK.out _ _ (Below.refl _ _) (rfl) trivial
   refine AS.sc rfl rfl rfl ?_ ?_
   ·intro k_ u w_ hk_ hJ hF K hK
    have h62 : u 62 = .bool false := AS.facts_get hF 62 (by simp)
    clear hF
    simp only [h62] at hK ⊢
    clear h62
    go_simp
    exact hK.out _ _ (Below.refl _ _) (rfl) trivial
   refine AS.sc rfl rfl rfl ?_ ?_
   ·intro k_ u w_ hk_ hJ hF K hK
    have h63 : u 63 = .bool false := AS.facts_get hF 63 (by simp)
    clear hF
    simp only [h63] at hK ⊢
    clear h63
    go_simp
    exact hK.out _ _ (Below.refl _ _) (rfl) trivial
   refine AS.sc rfl rfl rfl ?_ ?_
   ·intro k_ u w_ hk_ hJ hF K hK
    have h64 : u 64 = .slice (some ⟨pb, poff, none⟩) (nr : Nat) pd := AS.facts_get hF 64 (by simp)
    have h63 : u 63 = .bool false := AS.facts_get hF 63 (by simp)
    clear hF
    simp only [h64, h63] at hK ⊢
    clear h64 h63
    go_simp
    exact hK.out _ _ (Below.refl _ _) (rfl) trivial
   refine AS.sc rfl rfl rfl ?_ ?_
   ·intro k_ u w_ hk_ hJ hF K hK
    have h65 : u 65 = .int .i64 (nr : Int) := AS.facts_get hF 65 (by simp)
    have h63 : u 63 = .bool false := AS.facts_get hF 63 (by simp)
    clear hF
    simp only [h65, h63] at hK ⊢
    clear h65 h63
    go_simp
    exact hK.out _ _ (Below.refl _ _) (rfl) trivial
   refine AS.sc rfl rfl rfl ?_ ?_
   ·intro k_ u w_ hk_ hJ hF K hK
    have h63 : u 63 = .bool false := AS.facts_get hF 63 (by simp)
    have h66 : u 66 = .bool false := AS.facts_get hF 66 (by simp)
    clear hF
    simp only [h63, h66] at hK ⊢
    clear h63 h66
    go_simp
    exact hK.out _ _ (Below.refl _ _) (rfl) trivial
   refine AS.sc rfl rfl rfl ?_ ?_
   ·intro k_ u w_ hk_ hJ hF K hK
    have h67 : u 67 = .bool false := AS.facts_get hF 67 (by simp)
    clear hF
    simp only [h67] at hK ⊢
    clear h67
    go_simp
    exact hK.out _ _ (Below.refl _ _) (rfl) trivial
   refine AS.sc rfl rfl rfl ?_ ?_
   ·intro k_ u w_ hk_ hJ hF K hK
    have h68 : u 68 = .bool false := AS.facts_get hF 68 (by simp)
    clear hF
    simp only [h68] at hK ⊢
    clear h68
    go_simp
    exact hK.out _ _ (Below.refl _ _) (rfl) trivial
   refine AS.sc rfl rfl rfl ?_ ?_
   ·intro k_ u w_ hk_ hJ hF K hK
    have h69 : u 69 = .slice (some ⟨pb, poff, none⟩) (nr : Nat) pd := AS.facts_get hF 69 (by simp)
    have h68 : u 68 = .bool false := AS.facts_get hF 68 (by simp)
    clear hF
    simp only [h69, h68] at hK ⊢
    clear h69 h68
    go_simp
    exact hK.out _ _ (Below.refl _ _) (rfl) trivial
   refine AS.sc rfl rfl rfl ?_ ?_
   ·intro k_ u w_ hk_ hJ hF K hK
    have h70 : u 70 = .pointer (some ⟨pb, poff, none⟩) := AS.facts_get hF 70 (by simp)
    have h68 : u 68 = .bool false := AS.facts_get hF 68 (by simp)
    clear hF
    simp only [h70, h68] at hK ⊢
    clear h70 h68
    have hcp := ((hJ : Below W2.heap.size W2 w_).cell (p := ⟨pb, poff, none⟩) hpb).trans HP0.out
    go_simp
    exact hK.out _ _ (Below.refl _ _) (rfl) trivial
   refine AS.sc rfl rfl rfl ?_ ?_
   ·intro k_ u w_ hk_ hJ hF K hK
    have h68 : u 68 = .bool false := AS.facts_get hF 68 (by simp)
    clear hF
    simp only [h68] at hK ⊢
    clear h68
    go_simp
    exact hK.out _ _ (Below.refl _ _) (rfl) trivial
   refine AS.sc rfl rfl rfl ?_ ?_
   ·intro k_ u w_ hk_ hJ hF K hK
    have h72 : u 72 = .pointer (some ⟨g1, 0, none⟩) := AS.facts_get hF 72 (by simp)
    have h68 : u 68 = .bool false := AS.facts_get hF 68 (by simp)
    clear hF
    simp only [h72, h68] at hK ⊢
    clear h72 h68
    obtain ⟨⟨y0, y1, y2, y3⟩, ylt, -⟩ := HG1.out.up (hJ : Below W2.heap.size W2 w_)
    go_simp
    exact hK.out _ _ (Below.refl _ _) (rfl) trivial
   refine AS.sc rfl rfl rfl ?_ ?_
   ·intro k_ u w_ hk_ hJ hF K hK
    have h71 : u 71 = .int .i64 a.code := AS.facts_get hF 71 (by simp)
    have h73 : u 73 = .int .i64 a.code := AS.facts_get hF 73 (by simp)
    have h68 : u 68 = .bool false := AS.facts_get hF 68 (by simp)
    clear hF
    simp only [h71, h73, h68] at hK ⊢
    clear h71 h73 h68
    have eaa : (a.code != a.code) = false := by simp
    go_simp
    exact hK.out _ _ (Below.refl _ _) (rfl) trivial
   refine AS.sc rfl rfl rfl ?_ ?_
   ·intro k_ u w_ hk_ hJ hF K hK
    have h68 : u 68 = .bool false := AS.facts_get hF 68 (by simp)
    have h74 : u 74 = .bool false := AS.facts_get hF 74 (by simp)
    clear hF
    simp only [h68, h74] at hK ⊢
    clear h68 h74
    go_simp
    exact hK.out _ _ (Below.refl _ _) (rfl) trivial
   exact AS.StepsOk.nil
  ·intro u W9 hJ9 hF
   have h75 : u 75 = .bool false := AS.facts_get hF 75 (by simp [ctF, AS.temps])
   have hB9 : Below W2.heap.size W2 W9 := hJ9
   clear hF hJ9
   simp only [h75]
   clear h75
   have HG1b := Lib.hid (HG1.out.up hB9)
   have HIPb := Lib.hid (HIP.out.up hB9)
   have hBb := below_more hB hB9
   clear hB hB9 HP0 HG1 HIP HZW HPC HH1 HH2 HUn HG2
   go_wp2_with fail
   go_loopg [10] nr (fun kx s10 Wl => ∃ k : Nat, s10 = .int .i64 k ∧ k ≤ nr ∧ nr - k ≤ kx ∧ Hid (AB Wl g1 a) ∧ Hid (IntsAt .i64 Wl (some ⟨pb, poff, none⟩) R) ∧ Below w.heap.size w Wl)
   case atStart => exact ⟨0, rfl, by omega, by omega, HG1b, HIPb, hBb⟩
   case round =>
    clear HG1b HIPb hBb
    obtain ⟨k, rfl, hk, hkx, HG1, HIP, hB⟩ := hrel
    by_cases hlt : k < nr
    ·have hltz : (k : Int) < (nr : Int) := by omega
     obtain ⟨pb2, poff2, hpe, hpb2, hpc⟩ := HIP.out (by rw [HNR.out]; omega)
     injection hpe with hpe
     injection hpe with he1 he2
     subst he1 he2
     have hc0 := hpc k (by rw [HNR.out]; exact hlt)
     obtain ⟨y, hy, hy1, hy2⟩ := HRA.out k hlt
     have hyk := HRK.out k hlt y hy
     have hcf := HCF.out (R.getD k 0) wr (HZ.out.up hB)
     have hfa : fndA L (R.getD k 0) = y := by unfold fndA; rw [hy]; rfl
     rw [hfa, hy] at hcf
     obtain ⟨k1, hk1⟩ : ∃ k1 : Nat, (k : Int) + 1 = (k1 : Int) := ⟨k + 1, rfl⟩
     have hk1n : k1 = k + 1 := by omega
     have hk2 : IntKind.i64.wrap (k1 : Int) = (k1 : Int) := IntWalk.i64_in _ (by omega)
     have q1 : (y.kind != a.kind) = false := by simp [hyk]
     have HK1 := Lib.hid hk1n
     generalize R.getD k 0 = rk at *
     have HCFx := Lib.hid hcf
     by_cases hl2 : k1 < nr
     ·have q2 : decide (k1 < nr) = true := decide_eq_true hl2
      have hl2z : (k1 : Int) < (nr : Int) := by omega
      have q4 : ((k1 : Int) == (nr : Int)) = false := by simp; omega
      have hyp := hy1 (by omega)
      rw [← hk1n] at hyp
      have hcell := hpc k1 (by rw [HNR.out]; exact hl2)
      rw [← hyp] at hcell
      have HCL := Lib.hid hcell
      have q3 : (y.par != y.par) = false := by simp
      clear hpc hy hy1 hy2 hyk hcf hfa hk1n hyp hcell hl2
      go_wp2_with (go_at_call 13; refine HCFx.out.mono ?_; rintro e w6 ⟨rfl, hb⟩; have HG3 := Lib.hid ((HG1.out.up hb).up (below_alloc_new (.cells #[.int .i64 y.code, .int .i64 y.kind, .int .i64 y.basis, .int .i64 y.par] 26))); have HIP3 := Lib.hid ((HIP.out.up hb).up (below_alloc_new (.cells #[.int .i64 y.code, .int .i64 y.kind, .int .i64 y.basis, .int .i64 y.par] 26))); have HY3 := Lib.hid (ab_new w6 26 y); have hcc := ((below_alloc_new (w := w6) (.cells #[.int .i64 y.code, .int .i64 y.kind, .int .i64 y.basis, .int .i64 y.par] 26)).cell (p := ⟨pb, poff + k1, none⟩) (Nat.lt_of_lt_of_le hpb2 hb.size)).trans ((hb.cell (p := ⟨pb, poff + k1, none⟩) hpb2).trans HCL.out); have hB3 := below_new (below_more hB hb) (.cells #[.int .i64 y.code, .int .i64 y.kind, .int .i64 y.basis, .int .i64 y.par] 26); clear hb hc0; obtain ⟨⟨z0, z1, z2, z3⟩, zlt, -⟩ := HG3.out; obtain ⟨⟨u0, u1, u2, u3⟩, ult, -⟩ := HY3.out; simp only [Nat.zero_add] at z1 z2 z3 u1 u2 u3)
      generalize World.alloc w6 _ = W7 at *
      go_quiet (fail)
      replace hB3 := below_drewN hB3 nq
      have HG4 : Hid (AB (W7.drewN nq) g1 a) := Lib.hid ⟨⟨HG3.out.cells.c0, HG3.out.cells.c1, HG3.out.cells.c2, HG3.out.cells.c3⟩, HG3.out.lt, HG3.out.fz⟩
      have HIP4 : Hid (IntsAt .i64 (W7.drewN nq) (some ⟨pb, poff, none⟩) R) := HIP3
      clear z0 z1 z2 z3 zlt u0 u1 u2 u3 ult hcc HG3 HIP3 HY3
      generalize World.drewN _ nq = W8 at *
      go_wp2_with fail
      go_roundg (nr - k1)
      case measure => have := HK1.out; omega
      case rel => exact ⟨k1, rfl, by omega, by omega, HG4, HIP4, hB3⟩
     ·have q2 : decide (k1 < nr) = false := decide_eq_false hl2
      have q4 : ((k1 : Int) == (nr : Int)) = true := by simp; omega
      have hyp := hy2 (by omega)
      have q3 : (y.par != 0) = false := by simp [hyp]
      clear hpc hy hy1 hy2 hyk hcf hfa hk1n hyp hl2
      go_wp2_with (go_at_call 13; refine HCFx.out.mono ?_; rintro e w6 ⟨rfl, hb⟩; have HG3 := Lib.hid ((HG1.out.up hb).up (below_alloc_new (.cells #[.int .i64 y.code, .int .i64 y.kind, .int .i64 y.basis, .int .i64 y.par] 26))); have HIP3 := Lib.hid ((HIP.out.up hb).up (below_alloc_new (.cells #[.int .i64 y.code, .int .i64 y.kind, .int .i64 y.basis, .int .i64 y.par] 26))); have HY3 := Lib.hid (ab_new w6 26 y); have hB3 := below_new (below_more hB hb) (.cells #[.int .i64 y.code, .int .i64 y.kind, .int .i64 y.basis, .int .i64 y.par] 26); clear hb hc0; obtain ⟨⟨z0, z1, z2, z3⟩, zlt, -⟩ := HG3.out; obtain ⟨⟨u0, u1, u2, u3⟩, ult, -⟩ := HY3.out; simp only [Nat.zero_add] at z1 z2 z3 u1 u2 u3)
      generalize World.alloc w6 _ = W7 at *
      go_quiet (fail)
      replace hB3 := below_drewN hB3 nq
      have HG4 : Hid (AB (W7.drewN nq) g1 a) := Lib.hid ⟨⟨HG3.out.cells.c0, HG3.out.cells.c1, HG3.out.cells.c2, HG3.out.cells.c3⟩, HG3.out.lt, HG3.out.fz⟩
      have HIP4 : Hid (IntsAt .i64 (W7.drewN nq) (some ⟨pb, poff, none⟩) R) := HIP3
      clear z0 z1 z2 z3 zlt u0 u1 u2 u3 ult HG3 HIP3 HY3
      generalize World.drewN _ nq = W8 at *
      go_wp2_with fail
      go_roundg (nr - k1)
      case measure => have := HK1.out; omega
      case rel => exact ⟨k1, rfl, by have := HK1.out; omega, by have := HK1.out; omega, HG4, HIP4, hB3⟩
    ·obtain rfl : k = nr := by omega
     have hltz : ¬ (k : Int) < (k : Int) := by omega
     obtain ⟨⟨z0, z1, z2, z3⟩, zlt, -⟩ := HG1.out
     go_wp2_with (go_at_call 16; refine (HCK.out _ (HZ.out.up hB)).mono ?_; rintro e w6 ⟨v3, rfl, hs3, hb⟩; have HG2 := Lib.hid (HG1.out.up hb); have hB2 := below_more hB hb; obtain ⟨A3, d3, hv3, hI3⟩ := hs3; rw [HNK.out] at hv3; subst hv3; have HI3 := Lib.hid hI3; clear hb hI3)
     clear hB z0 z1 z2 z3 zlt HG1 HIP
     go_loopg [13, 15] nk (fun kx s13 s15 Wl => ∃ k2 : Nat, s13 = .int .i64 (1 + sumI (KD.take k2) (fun z => (cn z : Int))) ∧ s15 = .int .i64 k2 ∧ k2 ≤ nk ∧ nk - k2 ≤ kx ∧ Hid (AB Wl g1 a) ∧ Hid (IntsAt .i64 Wl A3 KD) ∧ Below w.heap.size w Wl)
     case atStart => exact ⟨0, by rw [List.take_zero, sumI_nil]; rfl, rfl, by omega, by omega, HG2, HI3, hB2⟩
     case round =>
      clear HG2 HI3 hB2
      obtain ⟨k2, rfl, rfl, hk2, hk2x, HG2, HI3, hB⟩ := hrel
      by_cases hl3 : k2 < nk
      ·have hl3z : (k2 : Int) < (nk : Int) := by omega
       obtain ⟨bk, offk, rfl, hbk, hck⟩ := HI3.out (by rw [HNK.out]; omega)
       have hcell := hck k2 (by rw [HNK.out]; exact hl3)
       have hst := sumI_take (d := (0 : Int)) (f := fun z => (cn z : Int)) (l := KD) (k := k2) (by rw [HNK.out]; exact hl3)
       obtain ⟨bd1, bd2⟩ := sumI_60 (f := fun z => (cn z : Int)) (l := KD.take k2) (by rw [List.length_take]; omega) (fun z _ => by have := HCB.out z; omega)
       have hcz := HCB.out (KD.getD k2 0)
       have hcu := HCU.out (KD.getD k2 0)
       have hcnz := HCN.out (KD.getD k2 0)
       generalize KD.getD k2 0 = kz at *
       generalize sumI (KD.take k2) (fun z => (cn z : Int)) = S at *
       have HST := Lib.hid hst
       have HCUz := Lib.hid hcu
       have HCNz := Lib.hid hcnz
       generalize cn kz = ck at *
       clear hck hst hcu hcnz
       go_wp2_with (go_at_call 19; refine (HCUz.out _ (HZ.out.up hB)).mono ?_; rintro e w7 ⟨v5, rfl, ⟨A5, d5, hv5, -⟩, hb⟩; rw [HCNz.out] at hv5; subst hv5; have HG3 := Lib.hid (HG2.out.up hb); have HI5 := Lib.hid (HI3.out.up hb); have hB3 := below_more hB hb; clear hb)
       go_roundg (nk - (k2 + 1))
       case measure => omega
       case rel => exact ⟨k2 + 1, by rw [HST.out, Int.add_assoc], by go_num, by omega, by omega, HG3, HI5, hB3⟩
      ·obtain rfl : k2 = nk := by omega
       have hl3z : ¬ (k2 : Int) < (k2 : Int) := by omega
       have hall : 1 + sumI (KD.take k2) (fun z => (cn z : Int)) = (cn a.code : Int) := by rw [List.take_of_length_le (by rw [HNK.out]; omega)]; exact HCT.out.symm
       rw [hall]
       have hcna := HCN.out a.code
       have HCNa := Lib.hid hcna
       generalize cn a.code = ca at *
       obtain ⟨⟨z0, z1, z2, z3⟩, zlt, -⟩ := HG2.out
       have ecc : ((ca : Int) == (ca : Int)) = true := by simp
       clear hall hcna HCT
       go_wp2_with (go_at_call 19; refine (HUa.out _ (HZ.out.up hB)).mono ?_; rintro e w7 ⟨v5, rfl, ⟨A5, d5, hv5, -⟩, hb⟩; rw [HCNa.out] at hv5; subst hv5; have hB3 := below_more hB hb; clear hb)
       go_ret
       exact ⟨rfl, hB3⟩
theorem law_chtree (A : Option Addr) (len c : Nat) (L : List Acc) (at1 at2 : Int) (w : World) (h1 : 0 ≤ at1 ∧ at1 ≤ 255) (h2 : 0 ≤ at2 ∧ at2 ≤ 255) (hlen : L.length = len) (hz : AccAt w A L) :
  Calls Try.prog 7 #[.slice A len c, .int .u8 at1, .int .u8 at2] w fun e w' => e = .returned (.bool true) ∧ Below w.heap.size w w' := by
 by_cases h : 60 < len ∨ len = 0 ∨ eiB L = false
 ·exact law_chtree_far A len c L at1 at2 w hlen hz h
 ·have h3 : eiB L = true := by
   cases he : eiB L with
   | true => rfl
   | false => exact absurd (.inr (.inr he)) h
  exact law_chtree_near A len c L at1 at2 w hlen hz h1 h2 (by omega) (by omega) h3
end Go.Proofs.Ytlhdnmpklaohkaa
