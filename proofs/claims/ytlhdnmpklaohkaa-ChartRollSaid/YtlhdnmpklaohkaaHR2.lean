/- Contracts and the law of ChartRoll, part 2: what was proved of each, callees first. -/
import Derived.Test.YtlhdnmpklaohkaaHR1
namespace Go.Proofs.Ytlhdnmpklaohkaa
open Go.RowKit
theorem rowB_prop {L : List Acc} {g : Bool} {k : Nat} (h : properB L g (L.getD k acc0) = false) : rowB L g k = false := by unfold rowB; rw [h]; rfl
theorem rowB_zero {L : List Acc} {g : Bool} (h : properB L g (L.getD 0 acc0) = true) : rowB L g 0 = topB L (L.getD 0 acc0) := by unfold rowB; rw [h]; simp
theorem rowB_down {L : List Acc} {g : Bool} {j : Nat} (h : (L.getD (j + 1) acc0).code ≤ (L.getD j acc0).code) : rowB L g (j + 1) = false := by
 unfold rowB
 rw [show decide (j + 1 = 0) = false from decide_eq_false (by omega), show decide ((L.getD (j + 1 - 1) acc0).code < (L.getD (j + 1) acc0).code) = false from decide_eq_false (by rw [Nat.add_sub_cancel]; omega)]
 simp
theorem rowB_up {L : List Acc} {g : Bool} {j : Nat} (h : properB L g (L.getD (j + 1) acc0) = true) (h2 : (L.getD j acc0).code < (L.getD (j + 1) acc0).code) : rowB L g (j + 1) = topB L (L.getD (j + 1) acc0) := by
 unfold rowB
 rw [h, show decide ((L.getD (j + 1 - 1) acc0).code < (L.getD (j + 1) acc0).code) = true from decide_eq_true (by rw [Nat.add_sub_cancel]; omega)]
 simp
def rvFa (b off n k : Nat) (cp : Nat) (g : Bool) (x : Acc) : List (Nat × AS.Fact) := [(15, AS.Fact.is (.slice (some ⟨b, off, none⟩) (n : Nat) cp)), (16, AS.Fact.is (.slice (some ⟨b, off, none⟩) (n : Nat) cp)), (17, AS.Fact.is (.int .i64 (k : Int))), (18, AS.Fact.is (.pointer (some ⟨b, off + k * 4, none⟩))), (19, AS.Fact.is (accV x)), (20, AS.Fact.is (.bool g)), (21, AS.Fact.is (.bool false)), (22, AS.Fact.is (.bool true)), (23, AS.Fact.is (.bool true)), (24, AS.Fact.is (undef)), (25, AS.Fact.is (undef)), (26, AS.Fact.is (undef)), (27, AS.Fact.is (undef)), (28, AS.Fact.is (undef)), (29, AS.Fact.is (undef)), (30, AS.Fact.is (undef)), (31, AS.Fact.is (undef)), (32, AS.Fact.is (undef)), (33, AS.Fact.is (undef)), (34, AS.Fact.is (undef)), (35, AS.Fact.is (undef)), (36, AS.Fact.is (undef)), (37, AS.Fact.is (undef)), (38, AS.Fact.is (undef)), (39, AS.Fact.is (undef)), (40, AS.Fact.is (.bool true)), (41, AS.Fact.is (.bool true)), (42, AS.Fact.is (undef)), (43, AS.Fact.is (undef)), (44, AS.Fact.is (undef)), (45, AS.Fact.is (undef)), (46, AS.Fact.is (undef)), (47, AS.Fact.is (undef)), (48, AS.Fact.is (undef)), (49, AS.Fact.is (undef)), (50, AS.Fact.is (undef)), (51, AS.Fact.is (undef)), (52, AS.Fact.is (undef)), (53, AS.Fact.is (.bool true))]
def rvFb (b off n k : Nat) (cp : Nat) (g : Bool) (x : Acc) (C : List Int) (cl : Nat) (q : Bool) : List (Nat × AS.Fact) := [(15, AS.Fact.is (.slice (some ⟨b, off, none⟩) (n : Nat) cp)), (16, AS.Fact.is (.slice (some ⟨b, off, none⟩) (n : Nat) cp)), (17, AS.Fact.is (.int .i64 (k : Int))), (18, AS.Fact.is (.pointer (some ⟨b, off + k * 4, none⟩))), (19, AS.Fact.is (accV x)), (20, AS.Fact.is (.bool g)), (21, AS.Fact.is (.bool true)), (22, AS.Fact.is (.bool false)), (23, AS.Fact.is (.bool false)), (24, AS.Fact.is (.int .i64 (k : Int))), (25, AS.Fact.is (.bool false)), (26, AS.Fact.is (.bool false)), (27, AS.Fact.is (undef)), (28, AS.Fact.is (undef)), (29, AS.Fact.is (undef)), (30, AS.Fact.is (undef)), (31, AS.Fact.is (undef)), (32, AS.Fact.is (undef)), (33, AS.Fact.is (undef)), (34, AS.Fact.is (undef)), (35, AS.Fact.is (undef)), (36, AS.Fact.is (undef)), (37, AS.Fact.is (undef)), (38, AS.Fact.is (undef)), (39, AS.Fact.is (.bool false)), (40, AS.Fact.is (.bool false)), (41, AS.Fact.is (.bool false)), (42, AS.Fact.is (.slice (some ⟨b, off, none⟩) (n : Nat) cp)), (43, AS.Fact.is (.slice (some ⟨b, off, none⟩) (n : Nat) cp)), (44, AS.Fact.is (.int .i64 (k : Int))), (45, AS.Fact.is (.pointer (some ⟨b, off + k * 4, none⟩))), (46, AS.Fact.is (.pointer (some ⟨b, off + k * 4, none⟩))), (47, AS.Fact.is (.int .i64 x.code)), (48, HSl C), (49, AS.Fact.is (.int .i64 (cl : Int))), (50, AS.Fact.is (.slice (some ⟨b, off, none⟩) (n : Nat) cp)), (51, AS.Fact.is (.int .i64 (n : Int))), (52, AS.Fact.is (.bool q)), (53, AS.Fact.is (.bool q))]
def rvFc (b off n k j : Nat) (cp : Nat) (g : Bool) (x y : Acc) : List (Nat × AS.Fact) := [(15, AS.Fact.is (.slice (some ⟨b, off, none⟩) (n : Nat) cp)), (16, AS.Fact.is (.slice (some ⟨b, off, none⟩) (n : Nat) cp)), (17, AS.Fact.is (.int .i64 (k : Int))), (18, AS.Fact.is (.pointer (some ⟨b, off + k * 4, none⟩))), (19, AS.Fact.is (accV x)), (20, AS.Fact.is (.bool g)), (21, AS.Fact.is (.bool true)), (22, AS.Fact.is (.bool false)), (23, AS.Fact.is (.bool false)), (24, AS.Fact.is (.int .i64 (k : Int))), (25, AS.Fact.is (.bool true)), (26, AS.Fact.is (.bool true)), (27, AS.Fact.is (.slice (some ⟨b, off, none⟩) (n : Nat) cp)), (28, AS.Fact.is (.int .i64 (k : Int))), (29, AS.Fact.is (.pointer (some ⟨b, off + k * 4, none⟩))), (30, AS.Fact.is (.pointer (some ⟨b, off + k * 4, none⟩))), (31, AS.Fact.is (.int .i64 x.code)), (32, AS.Fact.is (.slice (some ⟨b, off, none⟩) (n : Nat) cp)), (33, AS.Fact.is (.int .i64 (k : Int))), (34, AS.Fact.is (.int .i64 (j : Int))), (35, AS.Fact.is (.pointer (some ⟨b, off + j * 4, none⟩))), (36, AS.Fact.is (.pointer (some ⟨b, off + j * 4, none⟩))), (37, AS.Fact.is (.int .i64 y.code)), (38, AS.Fact.is (.bool true)), (39, AS.Fact.is (.bool true)), (40, AS.Fact.is (.bool true)), (41, AS.Fact.is (.bool true)), (42, AS.Fact.is (undef)), (43, AS.Fact.is (undef)), (44, AS.Fact.is (undef)), (45, AS.Fact.is (undef)), (46, AS.Fact.is (undef)), (47, AS.Fact.is (undef)), (48, AS.Fact.is (undef)), (49, AS.Fact.is (undef)), (50, AS.Fact.is (undef)), (51, AS.Fact.is (undef)), (52, AS.Fact.is (undef)), (53, AS.Fact.is (.bool true))]
def rvFd (b off n k j : Nat) (cp : Nat) (g : Bool) (x y : Acc) (C : List Int) (cl : Nat) (q : Bool) : List (Nat × AS.Fact) := [(15, AS.Fact.is (.slice (some ⟨b, off, none⟩) (n : Nat) cp)), (16, AS.Fact.is (.slice (some ⟨b, off, none⟩) (n : Nat) cp)), (17, AS.Fact.is (.int .i64 (k : Int))), (18, AS.Fact.is (.pointer (some ⟨b, off + k * 4, none⟩))), (19, AS.Fact.is (accV x)), (20, AS.Fact.is (.bool g)), (21, AS.Fact.is (.bool true)), (22, AS.Fact.is (.bool false)), (23, AS.Fact.is (.bool false)), (24, AS.Fact.is (.int .i64 (k : Int))), (25, AS.Fact.is (.bool true)), (26, AS.Fact.is (.bool true)), (27, AS.Fact.is (.slice (some ⟨b, off, none⟩) (n : Nat) cp)), (28, AS.Fact.is (.int .i64 (k : Int))), (29, AS.Fact.is (.pointer (some ⟨b, off + k * 4, none⟩))), (30, AS.Fact.is (.pointer (some ⟨b, off + k * 4, none⟩))), (31, AS.Fact.is (.int .i64 x.code)), (32, AS.Fact.is (.slice (some ⟨b, off, none⟩) (n : Nat) cp)), (33, AS.Fact.is (.int .i64 (k : Int))), (34, AS.Fact.is (.int .i64 (j : Int))), (35, AS.Fact.is (.pointer (some ⟨b, off + j * 4, none⟩))), (36, AS.Fact.is (.pointer (some ⟨b, off + j * 4, none⟩))), (37, AS.Fact.is (.int .i64 y.code)), (38, AS.Fact.is (.bool false)), (39, AS.Fact.is (.bool false)), (40, AS.Fact.is (.bool false)), (41, AS.Fact.is (.bool false)), (42, AS.Fact.is (.slice (some ⟨b, off, none⟩) (n : Nat) cp)), (43, AS.Fact.is (.slice (some ⟨b, off, none⟩) (n : Nat) cp)), (44, AS.Fact.is (.int .i64 (k : Int))), (45, AS.Fact.is (.pointer (some ⟨b, off + k * 4, none⟩))), (46, AS.Fact.is (.pointer (some ⟨b, off + k * 4, none⟩))), (47, AS.Fact.is (.int .i64 x.code)), (48, HSl C), (49, AS.Fact.is (.int .i64 (cl : Int))), (50, AS.Fact.is (.slice (some ⟨b, off, none⟩) (n : Nat) cp)), (51, AS.Fact.is (.int .i64 (n : Int))), (52, AS.Fact.is (.bool q)), (53, AS.Fact.is (.bool q))]
set_option maxRecDepth 20000 in
set_option maxHeartbeats 3200000 in
theorem rvalid8_any (A : Option Addr) (cp : Nat) (L : List Acc) (g : Bool) (w : World) (hz : AccAt w A L) (hl : L.length ≤ 1000) :
  Calls Try.prog 12 #[.slice A L.length cp, .bool g] w fun e w' => e = .returned (.bool (rvB L g)) ∧ Below w.heap.size w w' := by
 have hB := Below.refl w.heap.size w
 have hPr := fun x w h => rproper_any A cp L x g w h hl
 have hCb := fun c w h => rclimb_any A cp L c w h hl
 obtain ⟨n, hn⟩ : ∃ n, L.length = n := ⟨_, rfl⟩
 have hn0 := hn
 rw [hn] at hl hPr hCb ⊢
 have HN := Lib.hid hn
 have HZ := Lib.hid hz
 have HPr := Lib.hid hPr
 have HCb := Lib.hid hCb
 clear hn hz hPr hCb
 by_cases hbig : 200 < n
 ·have E : Hid (rvB L g = false) := Lib.hid (by unfold rvB; rw [decide_eq_false (by omega)]; rfl)
  have e1 : decide ((200 : Int) < (n : Int)) = true := decide_eq_true (by omega)
  clear hn0
  go_enter Try.func12, Try.ntmps12
  go_wp2_with fail
  go_ret
  exact ⟨by rw [E.out]; rfl, hB⟩
 have HV : Hid (rvB L g = rowsTo L g n) := Lib.hid (by unfold rvB; rw [decide_eq_true (by omega), hn0]; rfl)
 have e1 : decide ((200 : Int) < (n : Int)) = false := decide_eq_false (by omega)
 clear hn0
 go_enter Try.func12, Try.ntmps12
 go_wp2_with fail
 go_loopg [5] n (fun kx s5 wr => ∃ k : Nat, s5 = .int .i64 k ∧ k ≤ n ∧ n - k ≤ kx ∧ Hid (rowsTo L g k = true) ∧ Below w.heap.size w wr)
 case atStart => exact ⟨0, rfl, by omega, by omega, Lib.hid rfl, hB⟩
 case round =>
  clear hB
  obtain ⟨k, rfl, hk, hkx, HR, hB⟩ := hrel
  by_cases hlt : k < n
  ·have hltz : (k : Int) < (n : Int) := by omega
   have HZW := Lib.hid (HZ.out.up hB)
   obtain ⟨b, off, rfl, hbw, hcs⟩ := HZW.out (by rw [HN.out]; omega)
   have hbW : b < wr.heap.size := hbw
   obtain ⟨x, hx⟩ : ∃ x, L.getD k acc0 = x := ⟨_, rfl⟩
   have hx4 := hcs k (by rw [HN.out]; exact hlt)
   rw [hx] at hx4
   have HX := Lib.hid hx
   have HX4 := Lib.hid hx4
   have HCS := Lib.hid hcs
   have hpr := HPr.out x
   have hcb := HCb.out x.code
   clear hcs hx hx4 hbw
   go_wp2_with fail
   cases hp : properB L g x
   ·have E : Hid (rvB L g = false) := Lib.hid (rvB_no (k := k) (by rw [HN.out]; exact hlt) (rowB_prop (by rw [HX.out]; exact hp)))
    rw [hp] at hpr
    replace HPr := Lib.hid hpr
    clear hpr hcb HCb hp
    refine AS.region_facts (rvFa b off n k cp g x) (HNo wr) [[], [], [], [16, 17], [18], [], [15, 19, 20], [21], [22], [23], [23], [23], [26], [26], [26], [26], [26], [26], [26], [26], [26], [26], [26], [26], [23], [23, 39], [40], [41], [41], [41], [41], [41], [41], [41], [41], [41], [41], [41], [41, 52]] [] [[]] [0, 0, 0, 0, 0, 0, 0, 0, 0, 0, 0, 0, 0, 0, 0, 0, 0, 0, 0, 0, 0, 0, 0, 0, 0, 0, 0, 0, 0, 0, 0, 0, 0, 0, 0, 0, 0, 0, 0] [] (fun u => by simp only [rvFa, AS.temps, List.map_cons, List.map_nil, fillL, List.setIfInBounds_toArray, List.set_cons_zero, List.set_cons_succ]; rfl) (by kernel_rfl) (by kernel_rfl) (HNo.st wr) (dc_drew (Below.refl _ _)) ?_ ?_
    ·refine AS.sc rfl rfl rfl ?_ ?_
     ·intro k_ u w_ hk_ hJ hF K hK
      clear hF
      go_simp
      exact hK.out _ _ (Below.refl _ _) (rfl) trivial
     refine AS.sc rfl rfl rfl ?_ ?_
     ·intro k_ u w_ hk_ hJ hF K hK
      clear hF
      go_simp
      exact hK.out _ _ (Below.refl _ _) (rfl) trivial
     refine AS.sc rfl rfl rfl ?_ ?_
     ·intro k_ u w_ hk_ hJ hF K hK
      clear hF
      go_simp
      exact hK.out _ _ (Below.refl _ _) (rfl) trivial
     refine AS.sc rfl rfl rfl ?_ ?_
     ·intro k_ u w_ hk_ hJ hF K hK
      have h16 : u 16 = .slice (some ⟨b, off, none⟩) (n : Nat) cp := AS.facts_get hF 16 (by simp)
      have h17 : u 17 = .int .i64 (k : Int) := AS.facts_get hF 17 (by simp)
      clear hF
      simp only [h16, h17] at hK ⊢
      clear h16 h17
      go_simp
      exact hK.out _ _ (Below.refl _ _) (rfl) trivial
     refine AS.sc rfl rfl rfl ?_ ?_
     ·intro k_ u w_ hk_ hJ hF K hK
      have h18 : u 18 = .pointer (some ⟨b, off + k * 4, none⟩) := AS.facts_get hF 18 (by simp)
      clear hF
      simp only [h18] at hK ⊢
      clear h18
      obtain ⟨c0, c1, c2, c3⟩ := HX4.out.up (hJ : Below wr.heap.size wr w_) hbW
      go_simp
      exact hK.out _ _ (Below.refl _ _) (rfl) trivial
     refine AS.sc rfl rfl rfl ?_ ?_
     ·intro k_ u w_ hk_ hJ hF K hK
      clear hF
      go_simp
      exact hK.out _ _ (Below.refl _ _) (rfl) trivial
     refine AS.sc rfl rfl rfl ?_ ?_
     ·intro k_ u w_ hk_ hJ hF K hK
      have h15 : u 15 = .slice (some ⟨b, off, none⟩) (n : Nat) cp := AS.facts_get hF 15 (by simp)
      have h19 : u 19 = accV x := AS.facts_get hF 19 (by simp)
      have h20 : u 20 = .bool g := AS.facts_get hF 20 (by simp)
      clear hF
      simp only [h15, h19, h20] at hK ⊢
      clear h15 h19 h20
      have hz9 := HZW.out.up (hJ : Below wr.heap.size wr w_)
      go_simp
      refine (HPr.out _ hz9).mono ?_
      rintro e w3 ⟨rfl, hb⟩
      exact hK.out _ _ hb (rfl) trivial
     refine AS.sc rfl rfl rfl ?_ ?_
     ·intro k_ u w_ hk_ hJ hF K hK
      have h21 : u 21 = .bool false := AS.facts_get hF 21 (by simp)
      clear hF
      simp only [h21] at hK ⊢
      clear h21
      go_simp
      exact hK.out _ _ (Below.refl _ _) (rfl) trivial
     refine AS.sc rfl rfl rfl ?_ ?_
     ·intro k_ u w_ hk_ hJ hF K hK
      have h22 : u 22 = .bool true := AS.facts_get hF 22 (by simp)
      clear hF
      simp only [h22] at hK ⊢
      clear h22
      go_simp
      exact hK.out _ _ (Below.refl _ _) (rfl) trivial
     refine AS.sc rfl rfl rfl ?_ ?_
     ·intro k_ u w_ hk_ hJ hF K hK
      have h23 : u 23 = .bool true := AS.facts_get hF 23 (by simp)
      clear hF
      simp only [h23] at hK ⊢
      clear h23
      go_simp
      exact hK.out _ _ (Below.refl _ _) (rfl) trivial
     refine AS.sc rfl rfl rfl ?_ ?_
     ·intro k_ u w_ hk_ hJ hF K hK
      have h23 : u 23 = .bool true := AS.facts_get hF 23 (by simp)
      clear hF
      simp only [h23] at hK ⊢
      clear h23
      go_simp
      exact hK.out _ _ (Below.refl _ _) (rfl) trivial
     refine AS.sc rfl rfl rfl ?_ ?_
     ·intro k_ u w_ hk_ hJ hF K hK
      have h23 : u 23 = .bool true := AS.facts_get hF 23 (by simp)
      clear hF
      simp only [h23] at hK ⊢
      clear h23
      go_simp
      exact hK.out _ _ (Below.refl _ _) (rfl) trivial
     refine AS.sc rfl rfl rfl ?_ ?_
     ·intro k_ u w_ hk_ hJ hF K hK
      have h26 : u 26 = undef := AS.facts_get hF 26 (by simp)
      clear hF
      simp only [h26] at hK ⊢
      clear h26
      go_simp
      exact hK.out _ _ (Below.refl _ _) (rfl) trivial
     refine AS.sc rfl rfl rfl ?_ ?_
     ·intro k_ u w_ hk_ hJ hF K hK
      have h26 : u 26 = undef := AS.facts_get hF 26 (by simp)
      clear hF
      simp only [h26] at hK ⊢
      clear h26
      go_simp
      exact hK.out _ _ (Below.refl _ _) (rfl) trivial
     refine AS.sc rfl rfl rfl ?_ ?_
     ·intro k_ u w_ hk_ hJ hF K hK
      have h26 : u 26 = undef := AS.facts_get hF 26 (by simp)
      clear hF
      simp only [h26] at hK ⊢
      clear h26
      go_simp
      exact hK.out _ _ (Below.refl _ _) (rfl) trivial
     refine AS.sc rfl rfl rfl ?_ ?_
     ·intro k_ u w_ hk_ hJ hF K hK
      have h26 : u 26 = undef := AS.facts_get hF 26 (by simp)
      clear hF
      simp only [h26] at hK ⊢
      clear h26
      go_simp
      exact hK.out _ _ (Below.refl _ _) (rfl) trivial
     refine AS.sc rfl rfl rfl ?_ ?_
     ·intro k_ u w_ hk_ hJ hF K hK
      have h26 : u 26 = undef := AS.facts_get hF 26 (by simp)
      clear hF
      simp only [h26] at hK ⊢
      clear h26
      go_simp
      exact hK.out _ _ (Below.refl _ _) (rfl) trivial
     refine AS.sc rfl rfl rfl ?_ ?_
     ·intro k_ u w_ hk_ hJ hF K hK
      have h26 : u 26 = undef := AS.facts_get hF 26 (by simp)
      clear hF
      simp only [h26] at hK ⊢
      clear h26
      go_simp
      exact hK.out _ _ (Below.refl _ _) (rfl) trivial
     refine AS.sc rfl rfl rfl ?_ ?_
     ·intro k_ u w_ hk_ hJ hF K hK
      have h26 : u 26 = undef := AS.facts_get hF 26 (by simp)
      clear hF
      simp only [h26] at hK ⊢
      clear h26
      go_simp
      exact hK.out _ _ (Below.refl _ _) (rfl) trivial
     refine AS.sc rfl rfl rfl ?_ ?_
     ·intro k_ u w_ hk_ hJ hF K hK
      have h26 : u 26 = undef := AS.facts_get hF 26 (by simp)
      clear hF
      simp only [h26] at hK ⊢
      clear h26
      go_simp
      exact hK.out _ _ (Below.refl _ _) (rfl) trivial
     refine AS.sc rfl rfl rfl ?_ ?_
     ·intro k_ u w_ hk_ hJ hF K hK
      have h26 : u 26 = undef := AS.facts_get hF 26 (by simp)
      clear hF
      simp only [h26] at hK ⊢
      clear h26
      go_simp
      exact hK.out _ _ (Below.refl _ _) (rfl) trivial
     refine AS.sc rfl rfl rfl ?_ ?_
     ·intro k_ u w_ hk_ hJ hF K hK
      have h26 : u 26 = undef := AS.facts_get hF 26 (by simp)
      clear hF
      simp only [h26] at hK ⊢
      clear h26
      go_simp
      exact hK.out _ _ (Below.refl _ _) (rfl) trivial
     refine AS.sc rfl rfl rfl ?_ ?_
     ·intro k_ u w_ hk_ hJ hF K hK
      have h26 : u 26 = undef := AS.facts_get hF 26 (by simp)
      clear hF
      simp only [h26] at hK ⊢
      clear h26
      go_simp
      exact hK.out _ _ (Below.refl _ _) (rfl) trivial
     refine AS.sc rfl rfl rfl ?_ ?_
     ·intro k_ u w_ hk_ hJ hF K hK
      have h26 : u 26 = undef := AS.facts_get hF 26 (by simp)
      clear hF
      simp only [h26] at hK ⊢
      clear h26
      go_simp
      exact hK.out _ _ (Below.refl _ _) (rfl) trivial
     refine AS.sc rfl rfl rfl ?_ ?_
     ·intro k_ u w_ hk_ hJ hF K hK
      have h23 : u 23 = .bool true := AS.facts_get hF 23 (by simp)
      clear hF
      simp only [h23] at hK ⊢
      clear h23
      go_simp
      exact hK.out _ _ (Below.refl _ _) (rfl) trivial
     refine AS.sc rfl rfl rfl ?_ ?_
     ·intro k_ u w_ hk_ hJ hF K hK
      have h23 : u 23 = .bool true := AS.facts_get hF 23 (by simp)
      have h39 : u 39 = undef := AS.facts_get hF 39 (by simp)
      clear hF
      simp only [h23, h39] at hK ⊢
      clear h23 h39
      go_simp
      exact hK.out _ _ (Below.refl _ _) (rfl) trivial
     refine AS.sc rfl rfl rfl ?_ ?_
     ·intro k_ u w_ hk_ hJ hF K hK
      have h40 : u 40 = .bool true := AS.facts_get hF 40 (by simp)
      clear hF
      simp only [h40] at hK ⊢
      clear h40
      go_simp
      exact hK.out _ _ (Below.refl _ _) (rfl) trivial
     refine AS.sc rfl rfl rfl ?_ ?_
     ·intro k_ u w_ hk_ hJ hF K hK
      have h41 : u 41 = .bool true := AS.facts_get hF 41 (by simp)
      clear hF
      simp only [h41] at hK ⊢
      clear h41
      go_simp
      exact hK.out _ _ (Below.refl _ _) (rfl) trivial
     refine AS.sc rfl rfl rfl ?_ ?_
     ·intro k_ u w_ hk_ hJ hF K hK
      have h41 : u 41 = .bool true := AS.facts_get hF 41 (by simp)
      clear hF
      simp only [h41] at hK ⊢
      clear h41
      go_simp
      exact hK.out _ _ (Below.refl _ _) (rfl) trivial
     refine AS.sc rfl rfl rfl ?_ ?_
     ·intro k_ u w_ hk_ hJ hF K hK
      have h41 : u 41 = .bool true := AS.facts_get hF 41 (by simp)
      clear hF
      simp only [h41] at hK ⊢
      clear h41
      go_simp
      exact hK.out _ _ (Below.refl _ _) (rfl) trivial
     refine AS.sc rfl rfl rfl ?_ ?_
     ·intro k_ u w_ hk_ hJ hF K hK
      have h41 : u 41 = .bool true := AS.facts_get hF 41 (by simp)
      clear hF
      simp only [h41] at hK ⊢
      clear h41
      go_simp
      exact hK.out _ _ (Below.refl _ _) (rfl) trivial
     refine AS.sc rfl rfl rfl ?_ ?_
     ·intro k_ u w_ hk_ hJ hF K hK
      have h41 : u 41 = .bool true := AS.facts_get hF 41 (by simp)
      clear hF
      simp only [h41] at hK ⊢
      clear h41
      go_simp
      exact hK.out _ _ (Below.refl _ _) (rfl) trivial
     refine AS.sc rfl rfl rfl ?_ ?_
     ·intro k_ u w_ hk_ hJ hF K hK
      have h41 : u 41 = .bool true := AS.facts_get hF 41 (by simp)
      clear hF
      simp only [h41] at hK ⊢
      clear h41
      go_simp
      exact hK.out _ _ (Below.refl _ _) (rfl) trivial
     refine AS.sc rfl rfl rfl ?_ ?_
     ·intro k_ u w_ hk_ hJ hF K hK
      have h41 : u 41 = .bool true := AS.facts_get hF 41 (by simp)
      clear hF
      simp only [h41] at hK ⊢
      clear h41
      go_simp
      exact hK.out _ _ (Below.refl _ _) (rfl) trivial
     refine AS.sc rfl rfl rfl ?_ ?_
     ·intro k_ u w_ hk_ hJ hF K hK
      have h41 : u 41 = .bool true := AS.facts_get hF 41 (by simp)
      clear hF
      simp only [h41] at hK ⊢
      clear h41
      go_simp
      exact hK.out _ _ (Below.refl _ _) (rfl) trivial
     refine AS.sc rfl rfl rfl ?_ ?_
     ·intro k_ u w_ hk_ hJ hF K hK
      have h41 : u 41 = .bool true := AS.facts_get hF 41 (by simp)
      clear hF
      simp only [h41] at hK ⊢
      clear h41
      go_simp
      exact hK.out _ _ (Below.refl _ _) (rfl) trivial
     refine AS.sc rfl rfl rfl ?_ ?_
     ·intro k_ u w_ hk_ hJ hF K hK
      have h41 : u 41 = .bool true := AS.facts_get hF 41 (by simp)
      clear hF
      simp only [h41] at hK ⊢
      clear h41
      go_simp
      exact hK.out _ _ (Below.refl _ _) (rfl) trivial
     refine AS.sc rfl rfl rfl ?_ ?_
     ·intro k_ u w_ hk_ hJ hF K hK
      have h41 : u 41 = .bool true := AS.facts_get hF 41 (by simp)
      clear hF
      simp only [h41] at hK ⊢
      clear h41
      go_simp
      exact hK.out _ _ (Below.refl _ _) (rfl) trivial
     refine AS.sc rfl rfl rfl ?_ ?_
     ·intro k_ u w_ hk_ hJ hF K hK
      have h41 : u 41 = .bool true := AS.facts_get hF 41 (by simp)
      have h52 : u 52 = undef := AS.facts_get hF 52 (by simp)
      clear hF
      simp only [h41, h52] at hK ⊢
      clear h41 h52
      go_simp
      exact hK.out _ _ (Below.refl _ _) (rfl) trivial
     exact AS.StepsOk.nil
    ·intro u W9 hJ9 hF
     have h53 : u 53 = .bool true := AS.facts_get hF 53 (by simp [rvFa, AS.temps])
     have hB9 : Below wr.heap.size wr W9 := hJ9
     clear hF hJ9
     simp only [h53]
     clear h53
     go_wp2_with fail
     go_ret
     exact ⟨by rw [E.out]; rfl, hB.trans (hB9.mono hB.size)⟩
   ·rw [hp] at hpr
    replace HPr := Lib.hid hpr
    have htb : topB L x = decide ((climb L x.code).length ≤ L.length) := rfl
    obtain ⟨C, hC⟩ : ∃ C, climb L x.code = C := ⟨_, rfl⟩
    obtain ⟨cl, hcl⟩ : ∃ cl, C.length = cl := ⟨_, rfl⟩
    rw [hC] at hcb
    rw [hC, hcl, HN.out] at htb
    replace HCb := Lib.hid hcb
    have HCL := Lib.hid hcl
    have HTB := Lib.hid htb
    have hcl2 : cl ≤ 2000 := by have := climb_le (L := L) (c := x.code); rw [hC, hcl, HN.out] at this; omega
    have HP := Lib.hid hp
    clear hpr hcb hp hC hcl htb
    obtain ⟨q, hq⟩ : ∃ q, decide (n < cl) = q := ⟨_, rfl⟩
    have HTQ : Hid (topB L x = !q) := Lib.hid (by
     rw [HTB.out, ← hq]
     rcases Nat.lt_or_ge n cl with h1 | h1
     ·rw [decide_eq_false (show ¬ cl ≤ n by omega), decide_eq_true (show n < cl by omega)]; rfl
     ·rw [decide_eq_true (show cl ≤ n by omega), decide_eq_false (show ¬ n < cl by omega)]; rfl)
    rcases Nat.eq_zero_or_pos k with hk0 | hk0
    ·have HQ : Hid (rowB L g k = !q) := Lib.hid (by subst hk0; rw [rowB_zero (by rw [HX.out]; exact HP.out), HX.out]; exact HTQ.out)
     have e2 : decide (0 < k) = false := decide_eq_false (by omega)
     clear hk0
     refine AS.region_facts (rvFb b off n k cp g x C cl q) (HNo wr) [[], [], [], [16, 17], [18], [], [15, 19, 20], [21], [22], [23], [24, 23], [25, 23], [26], [26], [26], [26], [26], [26], [26], [26], [26], [26], [26], [26], [26, 38, 23], [23, 39], [40], [41], [41], [41], [43, 44, 41], [45, 41], [46, 41], [42, 47, 41], [48, 41], [41], [50, 41], [49, 51, 41], [41, 52]] [] [[]] [0, 0, 0, 0, 0, 0, 0, 0, 0, 0, 0, 0, 0, 0, 0, 0, 0, 0, 0, 0, 0, 0, 0, 0, 0, 0, 0, 0, 0, 0, 0, 0, 0, 0, 0, 0, 0, 0, 0] [] (fun u => by simp only [rvFb, AS.temps, List.map_cons, List.map_nil, fillL, List.setIfInBounds_toArray, List.set_cons_zero, List.set_cons_succ]; rfl) (by kernel_rfl) (by kernel_rfl) (HNo.st wr) (dc_drew (Below.refl _ _)) ?_ ?_
     ·refine AS.sc rfl rfl rfl ?_ ?_
      ·intro k_ u w_ hk_ hJ hF K hK
       clear hF
       go_simp
       exact hK.out _ _ (Below.refl _ _) (rfl) trivial
      refine AS.sc rfl rfl rfl ?_ ?_
      ·intro k_ u w_ hk_ hJ hF K hK
       clear hF
       go_simp
       exact hK.out _ _ (Below.refl _ _) (rfl) trivial
      refine AS.sc rfl rfl rfl ?_ ?_
      ·intro k_ u w_ hk_ hJ hF K hK
       clear hF
       go_simp
       exact hK.out _ _ (Below.refl _ _) (rfl) trivial
      refine AS.sc rfl rfl rfl ?_ ?_
      ·intro k_ u w_ hk_ hJ hF K hK
       have h16 : u 16 = .slice (some ⟨b, off, none⟩) (n : Nat) cp := AS.facts_get hF 16 (by simp)
       have h17 : u 17 = .int .i64 (k : Int) := AS.facts_get hF 17 (by simp)
       clear hF
       simp only [h16, h17] at hK ⊢
       clear h16 h17
       go_simp
       exact hK.out _ _ (Below.refl _ _) (rfl) trivial
      refine AS.sc rfl rfl rfl ?_ ?_
      ·intro k_ u w_ hk_ hJ hF K hK
       have h18 : u 18 = .pointer (some ⟨b, off + k * 4, none⟩) := AS.facts_get hF 18 (by simp)
       clear hF
       simp only [h18] at hK ⊢
       clear h18
       obtain ⟨c0, c1, c2, c3⟩ := HX4.out.up (hJ : Below wr.heap.size wr w_) hbW
       go_simp
       exact hK.out _ _ (Below.refl _ _) (rfl) trivial
      refine AS.sc rfl rfl rfl ?_ ?_
      ·intro k_ u w_ hk_ hJ hF K hK
       clear hF
       go_simp
       exact hK.out _ _ (Below.refl _ _) (rfl) trivial
      refine AS.sc rfl rfl rfl ?_ ?_
      ·intro k_ u w_ hk_ hJ hF K hK
       have h15 : u 15 = .slice (some ⟨b, off, none⟩) (n : Nat) cp := AS.facts_get hF 15 (by simp)
       have h19 : u 19 = accV x := AS.facts_get hF 19 (by simp)
       have h20 : u 20 = .bool g := AS.facts_get hF 20 (by simp)
       clear hF
       simp only [h15, h19, h20] at hK ⊢
       clear h15 h19 h20
       have hz9 := HZW.out.up (hJ : Below wr.heap.size wr w_)
       go_simp
       refine (HPr.out _ hz9).mono ?_
       rintro e w3 ⟨rfl, hb⟩
       exact hK.out _ _ hb (rfl) trivial
      refine AS.sc rfl rfl rfl ?_ ?_
      ·intro k_ u w_ hk_ hJ hF K hK
       have h21 : u 21 = .bool true := AS.facts_get hF 21 (by simp)
       clear hF
       simp only [h21] at hK ⊢
       clear h21
       go_simp
       exact hK.out _ _ (Below.refl _ _) (rfl) trivial
      refine AS.sc rfl rfl rfl ?_ ?_
      ·intro k_ u w_ hk_ hJ hF K hK
       have h22 : u 22 = .bool false := AS.facts_get hF 22 (by simp)
       clear hF
       simp only [h22] at hK ⊢
       clear h22
       go_simp
       exact hK.out _ _ (Below.refl _ _) (rfl) trivial
      refine AS.sc rfl rfl rfl ?_ ?_
      ·intro k_ u w_ hk_ hJ hF K hK
       have h23 : u 23 = .bool false := AS.facts_get hF 23 (by simp)
       clear hF
       simp only [h23] at hK ⊢
       clear h23
       go_simp
       exact hK.out _ _ (Below.refl _ _) (rfl) trivial
      refine AS.sc rfl rfl rfl ?_ ?_
      ·intro k_ u w_ hk_ hJ hF K hK
       have h24 : u 24 = .int .i64 (k : Int) := AS.facts_get hF 24 (by simp)
       have h23 : u 23 = .bool false := AS.facts_get hF 23 (by simp)
       clear hF
       simp only [h24, h23] at hK ⊢
       clear h24 h23
       go_simp
       exact hK.out _ _ (Below.refl _ _) (rfl) trivial
      refine AS.sc rfl rfl rfl ?_ ?_
      ·intro k_ u w_ hk_ hJ hF K hK
       have h25 : u 25 = .bool false := AS.facts_get hF 25 (by simp)
       have h23 : u 23 = .bool false := AS.facts_get hF 23 (by simp)
       clear hF
       simp only [h25, h23] at hK ⊢
       clear h25 h23
       go_simp
       exact hK.out _ _ (Below.refl _ _) (rfl) trivial
      refine AS.sc rfl rfl rfl ?_ ?_
      ·intro k_ u w_ hk_ hJ hF K hK
       have h26 : u 26 = .bool false := AS.facts_get hF 26 (by simp)
       clear hF
       simp only [h26] at hK ⊢
       clear h26
       go_simp
       exact hK.out _ _ (Below.refl _ _) (rfl) trivial
      refine AS.sc rfl rfl rfl ?_ ?_
      ·intro k_ u w_ hk_ hJ hF K hK
       have h26 : u 26 = .bool false := AS.facts_get hF 26 (by simp)
       clear hF
       simp only [h26] at hK ⊢
       clear h26
       go_simp
       exact hK.out _ _ (Below.refl _ _) (rfl) trivial
      refine AS.sc rfl rfl rfl ?_ ?_
      ·intro k_ u w_ hk_ hJ hF K hK
       have h26 : u 26 = .bool false := AS.facts_get hF 26 (by simp)
       clear hF
       simp only [h26] at hK ⊢
       clear h26
       go_simp
       exact hK.out _ _ (Below.refl _ _) (rfl) trivial
      refine AS.sc rfl rfl rfl ?_ ?_
      ·intro k_ u w_ hk_ hJ hF K hK
       have h26 : u 26 = .bool false := AS.facts_get hF 26 (by simp)
       clear hF
       simp only [h26] at hK ⊢
       clear h26
       go_simp
       exact hK.out _ _ (Below.refl _ _) (rfl) trivial
      refine AS.sc rfl rfl rfl ?_ ?_
      ·intro k_ u w_ hk_ hJ hF K hK
       have h26 : u 26 = .bool false := AS.facts_get hF 26 (by simp)
       clear hF
       simp only [h26] at hK ⊢
       clear h26
       go_simp
       exact hK.out _ _ (Below.refl _ _) (rfl) trivial
      refine AS.sc rfl rfl rfl ?_ ?_
      ·intro k_ u w_ hk_ hJ hF K hK
       have h26 : u 26 = .bool false := AS.facts_get hF 26 (by simp)
       clear hF
       simp only [h26] at hK ⊢
       clear h26
       go_simp
       exact hK.out _ _ (Below.refl _ _) (rfl) trivial
      refine AS.sc rfl rfl rfl ?_ ?_
      ·intro k_ u w_ hk_ hJ hF K hK
       have h26 : u 26 = .bool false := AS.facts_get hF 26 (by simp)
       clear hF
       simp only [h26] at hK ⊢
       clear h26
       go_simp
       exact hK.out _ _ (Below.refl _ _) (rfl) trivial
      refine AS.sc rfl rfl rfl ?_ ?_
      ·intro k_ u w_ hk_ hJ hF K hK
       have h26 : u 26 = .bool false := AS.facts_get hF 26 (by simp)
       clear hF
       simp only [h26] at hK ⊢
       clear h26
       go_simp
       exact hK.out _ _ (Below.refl _ _) (rfl) trivial
      refine AS.sc rfl rfl rfl ?_ ?_
      ·intro k_ u w_ hk_ hJ hF K hK
       have h26 : u 26 = .bool false := AS.facts_get hF 26 (by simp)
       clear hF
       simp only [h26] at hK ⊢
       clear h26
       go_simp
       exact hK.out _ _ (Below.refl _ _) (rfl) trivial
      refine AS.sc rfl rfl rfl ?_ ?_
      ·intro k_ u w_ hk_ hJ hF K hK
       have h26 : u 26 = .bool false := AS.facts_get hF 26 (by simp)
       clear hF
       simp only [h26] at hK ⊢
       clear h26
       go_simp
       exact hK.out _ _ (Below.refl _ _) (rfl) trivial
      refine AS.sc rfl rfl rfl ?_ ?_
      ·intro k_ u w_ hk_ hJ hF K hK
       have h26 : u 26 = .bool false := AS.facts_get hF 26 (by simp)
       clear hF
       simp only [h26] at hK ⊢
       clear h26
       go_simp
       exact hK.out _ _ (Below.refl _ _) (rfl) trivial
      refine AS.sc rfl rfl rfl ?_ ?_
      ·intro k_ u w_ hk_ hJ hF K hK
       have h26 : u 26 = .bool false := AS.facts_get hF 26 (by simp)
       clear hF
       simp only [h26] at hK ⊢
       clear h26
       go_simp
       exact hK.out _ _ (Below.refl _ _) (rfl) trivial
      refine AS.sc rfl rfl rfl ?_ ?_
      ·intro k_ u w_ hk_ hJ hF K hK
       have h26 : u 26 = .bool false := AS.facts_get hF 26 (by simp)
       have h38 : u 38 = undef := AS.facts_get hF 38 (by simp)
       have h23 : u 23 = .bool false := AS.facts_get hF 23 (by simp)
       clear hF
       simp only [h26, h38, h23] at hK ⊢
       clear h26 h38 h23
       go_simp
       exact hK.out _ _ (Below.refl _ _) (rfl) trivial
      refine AS.sc rfl rfl rfl ?_ ?_
      ·intro k_ u w_ hk_ hJ hF K hK
       have h23 : u 23 = .bool false := AS.facts_get hF 23 (by simp)
       have h39 : u 39 = .bool false := AS.facts_get hF 39 (by simp)
       clear hF
       simp only [h23, h39] at hK ⊢
       clear h23 h39
       go_simp
       exact hK.out _ _ (Below.refl _ _) (rfl) trivial
      refine AS.sc rfl rfl rfl ?_ ?_
      ·intro k_ u w_ hk_ hJ hF K hK
       have h40 : u 40 = .bool false := AS.facts_get hF 40 (by simp)
       clear hF
       simp only [h40] at hK ⊢
       clear h40
       go_simp
       exact hK.out _ _ (Below.refl _ _) (rfl) trivial
      refine AS.sc rfl rfl rfl ?_ ?_
      ·intro k_ u w_ hk_ hJ hF K hK
       have h41 : u 41 = .bool false := AS.facts_get hF 41 (by simp)
       clear hF
       simp only [h41] at hK ⊢
       clear h41
       go_simp
       exact hK.out _ _ (Below.refl _ _) (rfl) trivial
      refine AS.sc rfl rfl rfl ?_ ?_
      ·intro k_ u w_ hk_ hJ hF K hK
       have h41 : u 41 = .bool false := AS.facts_get hF 41 (by simp)
       clear hF
       simp only [h41] at hK ⊢
       clear h41
       go_simp
       exact hK.out _ _ (Below.refl _ _) (rfl) trivial
      refine AS.sc rfl rfl rfl ?_ ?_
      ·intro k_ u w_ hk_ hJ hF K hK
       have h41 : u 41 = .bool false := AS.facts_get hF 41 (by simp)
       clear hF
       simp only [h41] at hK ⊢
       clear h41
       go_simp
       exact hK.out _ _ (Below.refl _ _) (rfl) trivial
      refine AS.sc rfl rfl rfl ?_ ?_
      ·intro k_ u w_ hk_ hJ hF K hK
       have h43 : u 43 = .slice (some ⟨b, off, none⟩) (n : Nat) cp := AS.facts_get hF 43 (by simp)
       have h44 : u 44 = .int .i64 (k : Int) := AS.facts_get hF 44 (by simp)
       have h41 : u 41 = .bool false := AS.facts_get hF 41 (by simp)
       clear hF
       simp only [h43, h44, h41] at hK ⊢
       clear h43 h44 h41
       go_simp
       exact hK.out _ _ (Below.refl _ _) (rfl) trivial
      refine AS.sc rfl rfl rfl ?_ ?_
      ·intro k_ u w_ hk_ hJ hF K hK
       have h45 : u 45 = .pointer (some ⟨b, off + k * 4, none⟩) := AS.facts_get hF 45 (by simp)
       have h41 : u 41 = .bool false := AS.facts_get hF 41 (by simp)
       clear hF
       simp only [h45, h41] at hK ⊢
       clear h45 h41
       go_simp
       exact hK.out _ _ (Below.refl _ _) (rfl) trivial
      refine AS.sc rfl rfl rfl ?_ ?_
      ·intro k_ u w_ hk_ hJ hF K hK
       have h46 : u 46 = .pointer (some ⟨b, off + k * 4, none⟩) := AS.facts_get hF 46 (by simp)
       have h41 : u 41 = .bool false := AS.facts_get hF 41 (by simp)
       clear hF
       simp only [h46, h41] at hK ⊢
       clear h46 h41
       obtain ⟨c0, c1, c2, c3⟩ := HX4.out.up (hJ : Below wr.heap.size wr w_) hbW
       go_simp
       exact hK.out _ _ (Below.refl _ _) (rfl) trivial
      refine AS.sc rfl rfl rfl ?_ ?_
      ·intro k_ u w_ hk_ hJ hF K hK
       have h42 : u 42 = .slice (some ⟨b, off, none⟩) (n : Nat) cp := AS.facts_get hF 42 (by simp)
       have h47 : u 47 = .int .i64 x.code := AS.facts_get hF 47 (by simp)
       have h41 : u 41 = .bool false := AS.facts_get hF 41 (by simp)
       clear hF
       simp only [h42, h47, h41] at hK ⊢
       clear h42 h47 h41
       have hz9 := HZW.out.up (hJ : Below wr.heap.size wr w_)
       go_simp
       refine (HCb.out _ hz9).mono ?_
       rintro e w3 ⟨v, rfl, h9, hb⟩
       exact hK.out _ _ hb h9 trivial
      refine AS.sc rfl rfl rfl ?_ ?_
      ·intro k_ u w_ hk_ hJ hF K hK
       have h48 : SlI w_ (u 48) C := AS.facts_get hF 48 (by simp)
       have h41 : u 41 = .bool false := AS.facts_get hF 41 (by simp)
       clear hF
       obtain ⟨A8, d8, h48, -⟩ := h48
       rw [HCL.out] at h48
       simp only [h48, h41] at hK ⊢
       clear h48 h41
       go_simp
       exact hK.out _ _ (Below.refl _ _) (rfl) trivial
      refine AS.sc rfl rfl rfl ?_ ?_
      ·intro k_ u w_ hk_ hJ hF K hK
       have h41 : u 41 = .bool false := AS.facts_get hF 41 (by simp)
       clear hF
       simp only [h41] at hK ⊢
       clear h41
       go_simp
       exact hK.out _ _ (Below.refl _ _) (rfl) trivial
      refine AS.sc rfl rfl rfl ?_ ?_
      ·intro k_ u w_ hk_ hJ hF K hK
       have h50 : u 50 = .slice (some ⟨b, off, none⟩) (n : Nat) cp := AS.facts_get hF 50 (by simp)
       have h41 : u 41 = .bool false := AS.facts_get hF 41 (by simp)
       clear hF
       simp only [h50, h41] at hK ⊢
       clear h50 h41
       go_simp
       exact hK.out _ _ (Below.refl _ _) (rfl) trivial
      refine AS.sc rfl rfl rfl ?_ ?_
      ·intro k_ u w_ hk_ hJ hF K hK
       have h49 : u 49 = .int .i64 (cl : Int) := AS.facts_get hF 49 (by simp)
       have h51 : u 51 = .int .i64 (n : Int) := AS.facts_get hF 51 (by simp)
       have h41 : u 41 = .bool false := AS.facts_get hF 41 (by simp)
       clear hF
       simp only [h49, h51, h41] at hK ⊢
       clear h49 h51 h41
       go_simp
       exact hK.out _ _ (Below.refl _ _) (rfl) trivial
      refine AS.sc rfl rfl rfl ?_ ?_
      ·intro k_ u w_ hk_ hJ hF K hK
       have h41 : u 41 = .bool false := AS.facts_get hF 41 (by simp)
       have h52 : u 52 = .bool q := AS.facts_get hF 52 (by simp)
       clear hF
       simp only [h41, h52] at hK ⊢
       clear h41 h52
       go_simp
       exact hK.out _ _ (Below.refl _ _) (rfl) trivial
      exact AS.StepsOk.nil
     ·intro u W9 hJ9 hF
      have h53 : u 53 = .bool q := AS.facts_get hF 53 (by simp [rvFb, AS.temps])
      have hB9 : Below wr.heap.size wr W9 := hJ9
      clear hF hJ9
      simp only [h53]
      clear h53
      cases q
      ·have HR2 : Hid (rowsTo L g (k + 1) = true) := Lib.hid (by rw [rowsTo, HR.out, HQ.out]; rfl)
       go_wp2_with fail
       go_roundg (n - (k + 1))
       case measure => omega
       case rel => exact ⟨k + 1, by go_num, by omega, by omega, HR2, hB.trans (hB9.mono hB.size)⟩
      ·have E : Hid (rvB L g = false) := Lib.hid (rvB_no (k := k) (by rw [HN.out]; exact hlt) HQ.out)
       go_wp2_with fail
       go_ret
       exact ⟨by rw [E.out]; rfl, hB.trans (hB9.mono hB.size)⟩
    ·obtain ⟨j, hj⟩ : ∃ j, k = j + 1 := ⟨k - 1, by omega⟩
     have hjn : j < n := by omega
     have hjz : (j : Int) < (n : Int) := by omega
     have hj1 : (k : Int) - 1 = (j : Int) := by omega
     have hj2 : IntKind.i64.wrap (j : Int) = (j : Int) := IntWalk.i64_in _ (by omega)
     have e2 : decide (0 < k) = true := decide_eq_true (by omega)
     obtain ⟨y, hy⟩ : ∃ y, L.getD j acc0 = y := ⟨_, rfl⟩
     have hy4 := HCS.out j (by rw [HN.out]; omega)
     rw [hy] at hy4
     have HY4 := Lib.hid hy4
     have HY := Lib.hid hy
     have HJ := Lib.hid hj
     clear hy4 hy hj hk0
     rcases Int.lt_or_le y.code x.code with h8 | h8
     ·have HQ : Hid (rowB L g k = !q) := Lib.hid (by
       have h1 := HX.out
       rw [HJ.out] at h1 ⊢
       rw [rowB_up (by rw [h1]; exact HP.out) (by rw [h1, HY.out]; exact h8), h1]; exact HTQ.out)
      have e3 : decide (x.code ≤ y.code) = false := decide_eq_false (by omega)
      clear h8
      refine AS.region_facts (rvFd b off n k j cp g x y C cl q) (HNo wr) [[], [], [], [16, 17], [18], [], [15, 19, 20], [21], [22], [23], [24, 23], [25, 23], [26], [26], [27, 28, 26], [29, 26], [30, 26], [26], [26], [33, 26], [32, 34, 26], [35, 26], [36, 26], [31, 37, 26], [26, 38, 23], [23, 39], [40], [41], [41], [41], [43, 44, 41], [45, 41], [46, 41], [42, 47, 41], [48, 41], [41], [50, 41], [49, 51, 41], [41, 52]] [] [[]] [0, 0, 0, 0, 0, 0, 0, 0, 0, 0, 0, 0, 0, 0, 0, 0, 0, 0, 0, 0, 0, 0, 0, 0, 0, 0, 0, 0, 0, 0, 0, 0, 0, 0, 0, 0, 0, 0, 0] [] (fun u => by simp only [rvFd, AS.temps, List.map_cons, List.map_nil, fillL, List.setIfInBounds_toArray, List.set_cons_zero, List.set_cons_succ]; rfl) (by kernel_rfl) (by kernel_rfl) (HNo.st wr) (dc_drew (Below.refl _ _)) ?_ ?_
      ·refine AS.sc rfl rfl rfl ?_ ?_
       ·intro k_ u w_ hk_ hJ hF K hK
        clear hF
        go_simp
        exact hK.out _ _ (Below.refl _ _) (rfl) trivial
       refine AS.sc rfl rfl rfl ?_ ?_
       ·intro k_ u w_ hk_ hJ hF K hK
        clear hF
        go_simp
        exact hK.out _ _ (Below.refl _ _) (rfl) trivial
       refine AS.sc rfl rfl rfl ?_ ?_
       ·intro k_ u w_ hk_ hJ hF K hK
        clear hF
        go_simp
        exact hK.out _ _ (Below.refl _ _) (rfl) trivial
       refine AS.sc rfl rfl rfl ?_ ?_
       ·intro k_ u w_ hk_ hJ hF K hK
        have h16 : u 16 = .slice (some ⟨b, off, none⟩) (n : Nat) cp := AS.facts_get hF 16 (by simp)
        have h17 : u 17 = .int .i64 (k : Int) := AS.facts_get hF 17 (by simp)
        clear hF
        simp only [h16, h17] at hK ⊢
        clear h16 h17
        go_simp
        exact hK.out _ _ (Below.refl _ _) (rfl) trivial
       refine AS.sc rfl rfl rfl ?_ ?_
       ·intro k_ u w_ hk_ hJ hF K hK
        have h18 : u 18 = .pointer (some ⟨b, off + k * 4, none⟩) := AS.facts_get hF 18 (by simp)
        clear hF
        simp only [h18] at hK ⊢
        clear h18
        obtain ⟨c0, c1, c2, c3⟩ := HX4.out.up (hJ : Below wr.heap.size wr w_) hbW
        go_simp
        exact hK.out _ _ (Below.refl _ _) (rfl) trivial
       refine AS.sc rfl rfl rfl ?_ ?_
       ·intro k_ u w_ hk_ hJ hF K hK
        clear hF
        go_simp
        exact hK.out _ _ (Below.refl _ _) (rfl) trivial
       refine AS.sc rfl rfl rfl ?_ ?_
       ·intro k_ u w_ hk_ hJ hF K hK
        have h15 : u 15 = .slice (some ⟨b, off, none⟩) (n : Nat) cp := AS.facts_get hF 15 (by simp)
        have h19 : u 19 = accV x := AS.facts_get hF 19 (by simp)
        have h20 : u 20 = .bool g := AS.facts_get hF 20 (by simp)
        clear hF
        simp only [h15, h19, h20] at hK ⊢
        clear h15 h19 h20
        have hz9 := HZW.out.up (hJ : Below wr.heap.size wr w_)
        go_simp
        refine (HPr.out _ hz9).mono ?_
        rintro e w3 ⟨rfl, hb⟩
        exact hK.out _ _ hb (rfl) trivial
       refine AS.sc rfl rfl rfl ?_ ?_
       ·intro k_ u w_ hk_ hJ hF K hK
        have h21 : u 21 = .bool true := AS.facts_get hF 21 (by simp)
        clear hF
        simp only [h21] at hK ⊢
        clear h21
        go_simp
        exact hK.out _ _ (Below.refl _ _) (rfl) trivial
       refine AS.sc rfl rfl rfl ?_ ?_
       ·intro k_ u w_ hk_ hJ hF K hK
        have h22 : u 22 = .bool false := AS.facts_get hF 22 (by simp)
        clear hF
        simp only [h22] at hK ⊢
        clear h22
        go_simp
        exact hK.out _ _ (Below.refl _ _) (rfl) trivial
       refine AS.sc rfl rfl rfl ?_ ?_
       ·intro k_ u w_ hk_ hJ hF K hK
        have h23 : u 23 = .bool false := AS.facts_get hF 23 (by simp)
        clear hF
        simp only [h23] at hK ⊢
        clear h23
        go_simp
        exact hK.out _ _ (Below.refl _ _) (rfl) trivial
       refine AS.sc rfl rfl rfl ?_ ?_
       ·intro k_ u w_ hk_ hJ hF K hK
        have h24 : u 24 = .int .i64 (k : Int) := AS.facts_get hF 24 (by simp)
        have h23 : u 23 = .bool false := AS.facts_get hF 23 (by simp)
        clear hF
        simp only [h24, h23] at hK ⊢
        clear h24 h23
        go_simp
        exact hK.out _ _ (Below.refl _ _) (rfl) trivial
       refine AS.sc rfl rfl rfl ?_ ?_
       ·intro k_ u w_ hk_ hJ hF K hK
        have h25 : u 25 = .bool true := AS.facts_get hF 25 (by simp)
        have h23 : u 23 = .bool false := AS.facts_get hF 23 (by simp)
        clear hF
        simp only [h25, h23] at hK ⊢
        clear h25 h23
        go_simp
        exact hK.out _ _ (Below.refl _ _) (rfl) trivial
       refine AS.sc rfl rfl rfl ?_ ?_
       ·intro k_ u w_ hk_ hJ hF K hK
        have h26 : u 26 = .bool true := AS.facts_get hF 26 (by simp)
        clear hF
        simp only [h26] at hK ⊢
        clear h26
        go_simp
        exact hK.out _ _ (Below.refl _ _) (rfl) trivial
       refine AS.sc rfl rfl rfl ?_ ?_
       ·intro k_ u w_ hk_ hJ hF K hK
        have h26 : u 26 = .bool true := AS.facts_get hF 26 (by simp)
        clear hF
        simp only [h26] at hK ⊢
        clear h26
        go_simp
        exact hK.out _ _ (Below.refl _ _) (rfl) trivial
       refine AS.sc rfl rfl rfl ?_ ?_
       ·intro k_ u w_ hk_ hJ hF K hK
        have h27 : u 27 = .slice (some ⟨b, off, none⟩) (n : Nat) cp := AS.facts_get hF 27 (by simp)
        have h28 : u 28 = .int .i64 (k : Int) := AS.facts_get hF 28 (by simp)
        have h26 : u 26 = .bool true := AS.facts_get hF 26 (by simp)
        clear hF
        simp only [h27, h28, h26] at hK ⊢
        clear h27 h28 h26
        go_simp
        exact hK.out _ _ (Below.refl _ _) (rfl) trivial
       refine AS.sc rfl rfl rfl ?_ ?_
       ·intro k_ u w_ hk_ hJ hF K hK
        have h29 : u 29 = .pointer (some ⟨b, off + k * 4, none⟩) := AS.facts_get hF 29 (by simp)
        have h26 : u 26 = .bool true := AS.facts_get hF 26 (by simp)
        clear hF
        simp only [h29, h26] at hK ⊢
        clear h29 h26
        go_simp
        exact hK.out _ _ (Below.refl _ _) (rfl) trivial
       refine AS.sc rfl rfl rfl ?_ ?_
       ·intro k_ u w_ hk_ hJ hF K hK
        have h30 : u 30 = .pointer (some ⟨b, off + k * 4, none⟩) := AS.facts_get hF 30 (by simp)
        have h26 : u 26 = .bool true := AS.facts_get hF 26 (by simp)
        clear hF
        simp only [h30, h26] at hK ⊢
        clear h30 h26
        obtain ⟨c0, c1, c2, c3⟩ := HX4.out.up (hJ : Below wr.heap.size wr w_) hbW
        go_simp
        exact hK.out _ _ (Below.refl _ _) (rfl) trivial
       refine AS.sc rfl rfl rfl ?_ ?_
       ·intro k_ u w_ hk_ hJ hF K hK
        have h26 : u 26 = .bool true := AS.facts_get hF 26 (by simp)
        clear hF
        simp only [h26] at hK ⊢
        clear h26
        go_simp
        exact hK.out _ _ (Below.refl _ _) (rfl) trivial
       refine AS.sc rfl rfl rfl ?_ ?_
       ·intro k_ u w_ hk_ hJ hF K hK
        have h26 : u 26 = .bool true := AS.facts_get hF 26 (by simp)
        clear hF
        simp only [h26] at hK ⊢
        clear h26
        go_simp
        exact hK.out _ _ (Below.refl _ _) (rfl) trivial
       refine AS.sc rfl rfl rfl ?_ ?_
       ·intro k_ u w_ hk_ hJ hF K hK
        have h33 : u 33 = .int .i64 (k : Int) := AS.facts_get hF 33 (by simp)
        have h26 : u 26 = .bool true := AS.facts_get hF 26 (by simp)
        clear hF
        simp only [h33, h26] at hK ⊢
        clear h33 h26
        go_simp
        exact hK.out _ _ (Below.refl _ _) (rfl) trivial
       refine AS.sc rfl rfl rfl ?_ ?_
       ·intro k_ u w_ hk_ hJ hF K hK
        have h32 : u 32 = .slice (some ⟨b, off, none⟩) (n : Nat) cp := AS.facts_get hF 32 (by simp)
        have h34 : u 34 = .int .i64 (j : Int) := AS.facts_get hF 34 (by simp)
        have h26 : u 26 = .bool true := AS.facts_get hF 26 (by simp)
        clear hF
        simp only [h32, h34, h26] at hK ⊢
        clear h32 h34 h26
        go_simp
        exact hK.out _ _ (Below.refl _ _) (rfl) trivial
       refine AS.sc rfl rfl rfl ?_ ?_
       ·intro k_ u w_ hk_ hJ hF K hK
        have h35 : u 35 = .pointer (some ⟨b, off + j * 4, none⟩) := AS.facts_get hF 35 (by simp)
        have h26 : u 26 = .bool true := AS.facts_get hF 26 (by simp)
        clear hF
        simp only [h35, h26] at hK ⊢
        clear h35 h26
        go_simp
        exact hK.out _ _ (Below.refl _ _) (rfl) trivial
       refine AS.sc rfl rfl rfl ?_ ?_
       ·intro k_ u w_ hk_ hJ hF K hK
        have h36 : u 36 = .pointer (some ⟨b, off + j * 4, none⟩) := AS.facts_get hF 36 (by simp)
        have h26 : u 26 = .bool true := AS.facts_get hF 26 (by simp)
        clear hF
        simp only [h36, h26] at hK ⊢
        clear h36 h26
        obtain ⟨c0, c1, c2, c3⟩ := HY4.out.up (hJ : Below wr.heap.size wr w_) hbW
        go_simp
        exact hK.out _ _ (Below.refl _ _) (rfl) trivial
       refine AS.sc rfl rfl rfl ?_ ?_
       ·intro k_ u w_ hk_ hJ hF K hK
        have h31 : u 31 = .int .i64 x.code := AS.facts_get hF 31 (by simp)
        have h37 : u 37 = .int .i64 y.code := AS.facts_get hF 37 (by simp)
        have h26 : u 26 = .bool true := AS.facts_get hF 26 (by simp)
        clear hF
        simp only [h31, h37, h26] at hK ⊢
        clear h31 h37 h26
        go_simp
        exact hK.out _ _ (Below.refl _ _) (rfl) trivial
       refine AS.sc rfl rfl rfl ?_ ?_
       ·intro k_ u w_ hk_ hJ hF K hK
        have h26 : u 26 = .bool true := AS.facts_get hF 26 (by simp)
        have h38 : u 38 = .bool false := AS.facts_get hF 38 (by simp)
        have h23 : u 23 = .bool false := AS.facts_get hF 23 (by simp)
        clear hF
        simp only [h26, h38, h23] at hK ⊢
        clear h26 h38 h23
        go_simp
        exact hK.out _ _ (Below.refl _ _) (rfl) trivial
       refine AS.sc rfl rfl rfl ?_ ?_
       ·intro k_ u w_ hk_ hJ hF K hK
        have h23 : u 23 = .bool false := AS.facts_get hF 23 (by simp)
        have h39 : u 39 = .bool false := AS.facts_get hF 39 (by simp)
        clear hF
        simp only [h23, h39] at hK ⊢
        clear h23 h39
        go_simp
        exact hK.out _ _ (Below.refl _ _) (rfl) trivial
       refine AS.sc rfl rfl rfl ?_ ?_
       ·intro k_ u w_ hk_ hJ hF K hK
        have h40 : u 40 = .bool false := AS.facts_get hF 40 (by simp)
        clear hF
        simp only [h40] at hK ⊢
        clear h40
        go_simp
        exact hK.out _ _ (Below.refl _ _) (rfl) trivial
       refine AS.sc rfl rfl rfl ?_ ?_
       ·intro k_ u w_ hk_ hJ hF K hK
        have h41 : u 41 = .bool false := AS.facts_get hF 41 (by simp)
        clear hF
        simp only [h41] at hK ⊢
        clear h41
        go_simp
        exact hK.out _ _ (Below.refl _ _) (rfl) trivial
       refine AS.sc rfl rfl rfl ?_ ?_
       ·intro k_ u w_ hk_ hJ hF K hK
        have h41 : u 41 = .bool false := AS.facts_get hF 41 (by simp)
        clear hF
        simp only [h41] at hK ⊢
        clear h41
        go_simp
        exact hK.out _ _ (Below.refl _ _) (rfl) trivial
       refine AS.sc rfl rfl rfl ?_ ?_
       ·intro k_ u w_ hk_ hJ hF K hK
        have h41 : u 41 = .bool false := AS.facts_get hF 41 (by simp)
        clear hF
        simp only [h41] at hK ⊢
        clear h41
        go_simp
        exact hK.out _ _ (Below.refl _ _) (rfl) trivial
       refine AS.sc rfl rfl rfl ?_ ?_
       ·intro k_ u w_ hk_ hJ hF K hK
        have h43 : u 43 = .slice (some ⟨b, off, none⟩) (n : Nat) cp := AS.facts_get hF 43 (by simp)
        have h44 : u 44 = .int .i64 (k : Int) := AS.facts_get hF 44 (by simp)
        have h41 : u 41 = .bool false := AS.facts_get hF 41 (by simp)
        clear hF
        simp only [h43, h44, h41] at hK ⊢
        clear h43 h44 h41
        go_simp
        exact hK.out _ _ (Below.refl _ _) (rfl) trivial
       refine AS.sc rfl rfl rfl ?_ ?_
       ·intro k_ u w_ hk_ hJ hF K hK
        have h45 : u 45 = .pointer (some ⟨b, off + k * 4, none⟩) := AS.facts_get hF 45 (by simp)
        have h41 : u 41 = .bool false := AS.facts_get hF 41 (by simp)
        clear hF
        simp only [h45, h41] at hK ⊢
        clear h45 h41
        go_simp
        exact hK.out _ _ (Below.refl _ _) (rfl) trivial
       refine AS.sc rfl rfl rfl ?_ ?_
       ·intro k_ u w_ hk_ hJ hF K hK
        have h46 : u 46 = .pointer (some ⟨b, off + k * 4, none⟩) := AS.facts_get hF 46 (by simp)
        have h41 : u 41 = .bool false := AS.facts_get hF 41 (by simp)
        clear hF
        simp only [h46, h41] at hK ⊢
        clear h46 h41
        obtain ⟨c0, c1, c2, c3⟩ := HX4.out.up (hJ : Below wr.heap.size wr w_) hbW
        go_simp
        exact hK.out _ _ (Below.refl _ _) (rfl) trivial
       refine AS.sc rfl rfl rfl ?_ ?_
       ·intro k_ u w_ hk_ hJ hF K hK
        have h42 : u 42 = .slice (some ⟨b, off, none⟩) (n : Nat) cp := AS.facts_get hF 42 (by simp)
        have h47 : u 47 = .int .i64 x.code := AS.facts_get hF 47 (by simp)
        have h41 : u 41 = .bool false := AS.facts_get hF 41 (by simp)
        clear hF
        simp only [h42, h47, h41] at hK ⊢
        clear h42 h47 h41
        have hz9 := HZW.out.up (hJ : Below wr.heap.size wr w_)
        go_simp
        refine (HCb.out _ hz9).mono ?_
        rintro e w3 ⟨v, rfl, h9, hb⟩
        exact hK.out _ _ hb h9 trivial
       refine AS.sc rfl rfl rfl ?_ ?_
       ·intro k_ u w_ hk_ hJ hF K hK
        have h48 : SlI w_ (u 48) C := AS.facts_get hF 48 (by simp)
        have h41 : u 41 = .bool false := AS.facts_get hF 41 (by simp)
        clear hF
        obtain ⟨A8, d8, h48, -⟩ := h48
        rw [HCL.out] at h48
        simp only [h48, h41] at hK ⊢
        clear h48 h41
        go_simp
        exact hK.out _ _ (Below.refl _ _) (rfl) trivial
       refine AS.sc rfl rfl rfl ?_ ?_
       ·intro k_ u w_ hk_ hJ hF K hK
        have h41 : u 41 = .bool false := AS.facts_get hF 41 (by simp)
        clear hF
        simp only [h41] at hK ⊢
        clear h41
        go_simp
        exact hK.out _ _ (Below.refl _ _) (rfl) trivial
       refine AS.sc rfl rfl rfl ?_ ?_
       ·intro k_ u w_ hk_ hJ hF K hK
        have h50 : u 50 = .slice (some ⟨b, off, none⟩) (n : Nat) cp := AS.facts_get hF 50 (by simp)
        have h41 : u 41 = .bool false := AS.facts_get hF 41 (by simp)
        clear hF
        simp only [h50, h41] at hK ⊢
        clear h50 h41
        go_simp
        exact hK.out _ _ (Below.refl _ _) (rfl) trivial
       refine AS.sc rfl rfl rfl ?_ ?_
       ·intro k_ u w_ hk_ hJ hF K hK
        have h49 : u 49 = .int .i64 (cl : Int) := AS.facts_get hF 49 (by simp)
        have h51 : u 51 = .int .i64 (n : Int) := AS.facts_get hF 51 (by simp)
        have h41 : u 41 = .bool false := AS.facts_get hF 41 (by simp)
        clear hF
        simp only [h49, h51, h41] at hK ⊢
        clear h49 h51 h41
        go_simp
        exact hK.out _ _ (Below.refl _ _) (rfl) trivial
       refine AS.sc rfl rfl rfl ?_ ?_
       ·intro k_ u w_ hk_ hJ hF K hK
        have h41 : u 41 = .bool false := AS.facts_get hF 41 (by simp)
        have h52 : u 52 = .bool q := AS.facts_get hF 52 (by simp)
        clear hF
        simp only [h41, h52] at hK ⊢
        clear h41 h52
        go_simp
        exact hK.out _ _ (Below.refl _ _) (rfl) trivial
       exact AS.StepsOk.nil
      ·intro u W9 hJ9 hF
       have h53 : u 53 = .bool q := AS.facts_get hF 53 (by simp [rvFd, AS.temps])
       have hB9 : Below wr.heap.size wr W9 := hJ9
       clear hF hJ9
       simp only [h53]
       clear h53
       cases q
       ·have HR2 : Hid (rowsTo L g (k + 1) = true) := Lib.hid (by rw [rowsTo, HR.out, HQ.out]; rfl)
        go_wp2_with fail
        go_roundg (n - (k + 1))
        case measure => omega
        case rel => exact ⟨k + 1, by go_num, by omega, by omega, HR2, hB.trans (hB9.mono hB.size)⟩
       ·have E : Hid (rvB L g = false) := Lib.hid (rvB_no (k := k) (by rw [HN.out]; exact hlt) HQ.out)
        go_wp2_with fail
        go_ret
        exact ⟨by rw [E.out]; rfl, hB.trans (hB9.mono hB.size)⟩
     ·have E : Hid (rvB L g = false) := Lib.hid (rvB_no (k := k) (by rw [HN.out]; exact hlt) (by
       have h1 := HX.out
       rw [HJ.out] at h1 ⊢
       exact rowB_down (by rw [h1, HY.out]; exact h8)))
      have e3 : decide (x.code ≤ y.code) = true := decide_eq_true h8
      clear h8 hq
      refine AS.region_facts (rvFc b off n k j cp g x y) (HNo wr) [[], [], [], [16, 17], [18], [], [15, 19, 20], [21], [22], [23], [24, 23], [25, 23], [26], [26], [27, 28, 26], [29, 26], [30, 26], [26], [26], [33, 26], [32, 34, 26], [35, 26], [36, 26], [31, 37, 26], [26, 38, 23], [23, 39], [40], [41], [41], [41], [41], [41], [41], [41], [41], [41], [41], [41], [41, 52]] [] [[]] [0, 0, 0, 0, 0, 0, 0, 0, 0, 0, 0, 0, 0, 0, 0, 0, 0, 0, 0, 0, 0, 0, 0, 0, 0, 0, 0, 0, 0, 0, 0, 0, 0, 0, 0, 0, 0, 0, 0] [] (fun u => by simp only [rvFc, AS.temps, List.map_cons, List.map_nil, fillL, List.setIfInBounds_toArray, List.set_cons_zero, List.set_cons_succ]; rfl) (by kernel_rfl) (by kernel_rfl) (HNo.st wr) (dc_drew (Below.refl _ _)) ?_ ?_
      ·refine AS.sc rfl rfl rfl ?_ ?_
       ·intro k_ u w_ hk_ hJ hF K hK
        clear hF
        go_simp
        exact hK.out _ _ (Below.refl _ _) (rfl) trivial
       refine AS.sc rfl rfl rfl ?_ ?_
       ·intro k_ u w_ hk_ hJ hF K hK
        clear hF
        go_simp
        exact hK.out _ _ (Below.refl _ _) (rfl) trivial
       refine AS.sc rfl rfl rfl ?_ ?_
       ·intro k_ u w_ hk_ hJ hF K hK
        clear hF
        go_simp
        exact hK.out _ _ (Below.refl _ _) (rfl) trivial
       refine AS.sc rfl rfl rfl ?_ ?_
       ·intro k_ u w_ hk_ hJ hF K hK
        have h16 : u 16 = .slice (some ⟨b, off, none⟩) (n : Nat) cp := AS.facts_get hF 16 (by simp)
        have h17 : u 17 = .int .i64 (k : Int) := AS.facts_get hF 17 (by simp)
        clear hF
        simp only [h16, h17] at hK ⊢
        clear h16 h17
        go_simp
        exact hK.out _ _ (Below.refl _ _) (rfl) trivial
       refine AS.sc rfl rfl rfl ?_ ?_
       ·intro k_ u w_ hk_ hJ hF K hK
        have h18 : u 18 = .pointer (some ⟨b, off + k * 4, none⟩) := AS.facts_get hF 18 (by simp)
        clear hF
        simp only [h18] at hK ⊢
        clear h18
        obtain ⟨c0, c1, c2, c3⟩ := HX4.out.up (hJ : Below wr.heap.size wr w_) hbW
        go_simp
        exact hK.out _ _ (Below.refl _ _) (rfl) trivial
       refine AS.sc rfl rfl rfl ?_ ?_
       ·intro k_ u w_ hk_ hJ hF K hK
        clear hF
        go_simp
        exact hK.out _ _ (Below.refl _ _) (rfl) trivial
       refine AS.sc rfl rfl rfl ?_ ?_
       ·intro k_ u w_ hk_ hJ hF K hK
        have h15 : u 15 = .slice (some ⟨b, off, none⟩) (n : Nat) cp := AS.facts_get hF 15 (by simp)
        have h19 : u 19 = accV x := AS.facts_get hF 19 (by simp)
        have h20 : u 20 = .bool g := AS.facts_get hF 20 (by simp)
        clear hF
        simp only [h15, h19, h20] at hK ⊢
        clear h15 h19 h20
        have hz9 := HZW.out.up (hJ : Below wr.heap.size wr w_)
        go_simp
        refine (HPr.out _ hz9).mono ?_
        rintro e w3 ⟨rfl, hb⟩
        exact hK.out _ _ hb (rfl) trivial
       refine AS.sc rfl rfl rfl ?_ ?_
       ·intro k_ u w_ hk_ hJ hF K hK
        have h21 : u 21 = .bool true := AS.facts_get hF 21 (by simp)
        clear hF
        simp only [h21] at hK ⊢
        clear h21
        go_simp
        exact hK.out _ _ (Below.refl _ _) (rfl) trivial
       refine AS.sc rfl rfl rfl ?_ ?_
       ·intro k_ u w_ hk_ hJ hF K hK
        have h22 : u 22 = .bool false := AS.facts_get hF 22 (by simp)
        clear hF
        simp only [h22] at hK ⊢
        clear h22
        go_simp
        exact hK.out _ _ (Below.refl _ _) (rfl) trivial
       refine AS.sc rfl rfl rfl ?_ ?_
       ·intro k_ u w_ hk_ hJ hF K hK
        have h23 : u 23 = .bool false := AS.facts_get hF 23 (by simp)
        clear hF
        simp only [h23] at hK ⊢
        clear h23
        go_simp
        exact hK.out _ _ (Below.refl _ _) (rfl) trivial
       refine AS.sc rfl rfl rfl ?_ ?_
       ·intro k_ u w_ hk_ hJ hF K hK
        have h24 : u 24 = .int .i64 (k : Int) := AS.facts_get hF 24 (by simp)
        have h23 : u 23 = .bool false := AS.facts_get hF 23 (by simp)
        clear hF
        simp only [h24, h23] at hK ⊢
        clear h24 h23
        go_simp
        exact hK.out _ _ (Below.refl _ _) (rfl) trivial
       refine AS.sc rfl rfl rfl ?_ ?_
       ·intro k_ u w_ hk_ hJ hF K hK
        have h25 : u 25 = .bool true := AS.facts_get hF 25 (by simp)
        have h23 : u 23 = .bool false := AS.facts_get hF 23 (by simp)
        clear hF
        simp only [h25, h23] at hK ⊢
        clear h25 h23
        go_simp
        exact hK.out _ _ (Below.refl _ _) (rfl) trivial
       refine AS.sc rfl rfl rfl ?_ ?_
       ·intro k_ u w_ hk_ hJ hF K hK
        have h26 : u 26 = .bool true := AS.facts_get hF 26 (by simp)
        clear hF
        simp only [h26] at hK ⊢
        clear h26
        go_simp
        exact hK.out _ _ (Below.refl _ _) (rfl) trivial
       refine AS.sc rfl rfl rfl ?_ ?_
       ·intro k_ u w_ hk_ hJ hF K hK
        have h26 : u 26 = .bool true := AS.facts_get hF 26 (by simp)
        clear hF
        simp only [h26] at hK ⊢
        clear h26
        go_simp
        exact hK.out _ _ (Below.refl _ _) (rfl) trivial
       refine AS.sc rfl rfl rfl ?_ ?_
       ·intro k_ u w_ hk_ hJ hF K hK
        have h27 : u 27 = .slice (some ⟨b, off, none⟩) (n : Nat) cp := AS.facts_get hF 27 (by simp)
        have h28 : u 28 = .int .i64 (k : Int) := AS.facts_get hF 28 (by simp)
        have h26 : u 26 = .bool true := AS.facts_get hF 26 (by simp)
        clear hF
        simp only [h27, h28, h26] at hK ⊢
        clear h27 h28 h26
        go_simp
        exact hK.out _ _ (Below.refl _ _) (rfl) trivial
       refine AS.sc rfl rfl rfl ?_ ?_
       ·intro k_ u w_ hk_ hJ hF K hK
        have h29 : u 29 = .pointer (some ⟨b, off + k * 4, none⟩) := AS.facts_get hF 29 (by simp)
        have h26 : u 26 = .bool true := AS.facts_get hF 26 (by simp)
        clear hF
        simp only [h29, h26] at hK ⊢
        clear h29 h26
        go_simp
        exact hK.out _ _ (Below.refl _ _) (rfl) trivial
       refine AS.sc rfl rfl rfl ?_ ?_
       ·intro k_ u w_ hk_ hJ hF K hK
        have h30 : u 30 = .pointer (some ⟨b, off + k * 4, none⟩) := AS.facts_get hF 30 (by simp)
        have h26 : u 26 = .bool true := AS.facts_get hF 26 (by simp)
        clear hF
        simp only [h30, h26] at hK ⊢
        clear h30 h26
        obtain ⟨c0, c1, c2, c3⟩ := HX4.out.up (hJ : Below wr.heap.size wr w_) hbW
        go_simp
        exact hK.out _ _ (Below.refl _ _) (rfl) trivial
       refine AS.sc rfl rfl rfl ?_ ?_
       ·intro k_ u w_ hk_ hJ hF K hK
        have h26 : u 26 = .bool true := AS.facts_get hF 26 (by simp)
        clear hF
        simp only [h26] at hK ⊢
        clear h26
        go_simp
        exact hK.out _ _ (Below.refl _ _) (rfl) trivial
       refine AS.sc rfl rfl rfl ?_ ?_
       ·intro k_ u w_ hk_ hJ hF K hK
        have h26 : u 26 = .bool true := AS.facts_get hF 26 (by simp)
        clear hF
        simp only [h26] at hK ⊢
        clear h26
        go_simp
        exact hK.out _ _ (Below.refl _ _) (rfl) trivial
       refine AS.sc rfl rfl rfl ?_ ?_
       ·intro k_ u w_ hk_ hJ hF K hK
        have h33 : u 33 = .int .i64 (k : Int) := AS.facts_get hF 33 (by simp)
        have h26 : u 26 = .bool true := AS.facts_get hF 26 (by simp)
        clear hF
        simp only [h33, h26] at hK ⊢
        clear h33 h26
        go_simp
        exact hK.out _ _ (Below.refl _ _) (rfl) trivial
       refine AS.sc rfl rfl rfl ?_ ?_
       ·intro k_ u w_ hk_ hJ hF K hK
        have h32 : u 32 = .slice (some ⟨b, off, none⟩) (n : Nat) cp := AS.facts_get hF 32 (by simp)
        have h34 : u 34 = .int .i64 (j : Int) := AS.facts_get hF 34 (by simp)
        have h26 : u 26 = .bool true := AS.facts_get hF 26 (by simp)
        clear hF
        simp only [h32, h34, h26] at hK ⊢
        clear h32 h34 h26
        go_simp
        exact hK.out _ _ (Below.refl _ _) (rfl) trivial
       refine AS.sc rfl rfl rfl ?_ ?_
       ·intro k_ u w_ hk_ hJ hF K hK
        have h35 : u 35 = .pointer (some ⟨b, off + j * 4, none⟩) := AS.facts_get hF 35 (by simp)
        have h26 : u 26 = .bool true := AS.facts_get hF 26 (by simp)
        clear hF
        simp only [h35, h26] at hK ⊢
        clear h35 h26
        go_simp
        exact hK.out _ _ (Below.refl _ _) (rfl) trivial
       refine AS.sc rfl rfl rfl ?_ ?_
       ·intro k_ u w_ hk_ hJ hF K hK
        have h36 : u 36 = .pointer (some ⟨b, off + j * 4, none⟩) := AS.facts_get hF 36 (by simp)
        have h26 : u 26 = .bool true := AS.facts_get hF 26 (by simp)
        clear hF
        simp only [h36, h26] at hK ⊢
        clear h36 h26
        obtain ⟨c0, c1, c2, c3⟩ := HY4.out.up (hJ : Below wr.heap.size wr w_) hbW
        go_simp
        exact hK.out _ _ (Below.refl _ _) (rfl) trivial
       refine AS.sc rfl rfl rfl ?_ ?_
       ·intro k_ u w_ hk_ hJ hF K hK
        have h31 : u 31 = .int .i64 x.code := AS.facts_get hF 31 (by simp)
        have h37 : u 37 = .int .i64 y.code := AS.facts_get hF 37 (by simp)
        have h26 : u 26 = .bool true := AS.facts_get hF 26 (by simp)
        clear hF
        simp only [h31, h37, h26] at hK ⊢
        clear h31 h37 h26
        go_simp
        exact hK.out _ _ (Below.refl _ _) (rfl) trivial
       refine AS.sc rfl rfl rfl ?_ ?_
       ·intro k_ u w_ hk_ hJ hF K hK
        have h26 : u 26 = .bool true := AS.facts_get hF 26 (by simp)
        have h38 : u 38 = .bool true := AS.facts_get hF 38 (by simp)
        have h23 : u 23 = .bool false := AS.facts_get hF 23 (by simp)
        clear hF
        simp only [h26, h38, h23] at hK ⊢
        clear h26 h38 h23
        go_simp
        exact hK.out _ _ (Below.refl _ _) (rfl) trivial
       refine AS.sc rfl rfl rfl ?_ ?_
       ·intro k_ u w_ hk_ hJ hF K hK
        have h23 : u 23 = .bool false := AS.facts_get hF 23 (by simp)
        have h39 : u 39 = .bool true := AS.facts_get hF 39 (by simp)
        clear hF
        simp only [h23, h39] at hK ⊢
        clear h23 h39
        go_simp
        exact hK.out _ _ (Below.refl _ _) (rfl) trivial
       refine AS.sc rfl rfl rfl ?_ ?_
       ·intro k_ u w_ hk_ hJ hF K hK
        have h40 : u 40 = .bool true := AS.facts_get hF 40 (by simp)
        clear hF
        simp only [h40] at hK ⊢
        clear h40
        go_simp
        exact hK.out _ _ (Below.refl _ _) (rfl) trivial
       refine AS.sc rfl rfl rfl ?_ ?_
       ·intro k_ u w_ hk_ hJ hF K hK
        have h41 : u 41 = .bool true := AS.facts_get hF 41 (by simp)
        clear hF
        simp only [h41] at hK ⊢
        clear h41
        go_simp
        exact hK.out _ _ (Below.refl _ _) (rfl) trivial
       refine AS.sc rfl rfl rfl ?_ ?_
       ·intro k_ u w_ hk_ hJ hF K hK
        have h41 : u 41 = .bool true := AS.facts_get hF 41 (by simp)
        clear hF
        simp only [h41] at hK ⊢
        clear h41
        go_simp
        exact hK.out _ _ (Below.refl _ _) (rfl) trivial
       refine AS.sc rfl rfl rfl ?_ ?_
       ·intro k_ u w_ hk_ hJ hF K hK
        have h41 : u 41 = .bool true := AS.facts_get hF 41 (by simp)
        clear hF
        simp only [h41] at hK ⊢
        clear h41
        go_simp
        exact hK.out _ _ (Below.refl _ _) (rfl) trivial
       refine AS.sc rfl rfl rfl ?_ ?_
       ·intro k_ u w_ hk_ hJ hF K hK
        have h41 : u 41 = .bool true := AS.facts_get hF 41 (by simp)
        clear hF
        simp only [h41] at hK ⊢
        clear h41
        go_simp
        exact hK.out _ _ (Below.refl _ _) (rfl) trivial
       refine AS.sc rfl rfl rfl ?_ ?_
       ·intro k_ u w_ hk_ hJ hF K hK
        have h41 : u 41 = .bool true := AS.facts_get hF 41 (by simp)
        clear hF
        simp only [h41] at hK ⊢
        clear h41
        go_simp
        exact hK.out _ _ (Below.refl _ _) (rfl) trivial
       refine AS.sc rfl rfl rfl ?_ ?_
       ·intro k_ u w_ hk_ hJ hF K hK
        have h41 : u 41 = .bool true := AS.facts_get hF 41 (by simp)
        clear hF
        simp only [h41] at hK ⊢
        clear h41
        go_simp
        exact hK.out _ _ (Below.refl _ _) (rfl) trivial
       refine AS.sc rfl rfl rfl ?_ ?_
       ·intro k_ u w_ hk_ hJ hF K hK
        have h41 : u 41 = .bool true := AS.facts_get hF 41 (by simp)
        clear hF
        simp only [h41] at hK ⊢
        clear h41
        go_simp
        exact hK.out _ _ (Below.refl _ _) (rfl) trivial
       refine AS.sc rfl rfl rfl ?_ ?_
       ·intro k_ u w_ hk_ hJ hF K hK
        have h41 : u 41 = .bool true := AS.facts_get hF 41 (by simp)
        clear hF
        simp only [h41] at hK ⊢
        clear h41
        go_simp
        exact hK.out _ _ (Below.refl _ _) (rfl) trivial
       refine AS.sc rfl rfl rfl ?_ ?_
       ·intro k_ u w_ hk_ hJ hF K hK
        have h41 : u 41 = .bool true := AS.facts_get hF 41 (by simp)
        clear hF
        simp only [h41] at hK ⊢
        clear h41
        go_simp
        exact hK.out _ _ (Below.refl _ _) (rfl) trivial
       refine AS.sc rfl rfl rfl ?_ ?_
       ·intro k_ u w_ hk_ hJ hF K hK
        have h41 : u 41 = .bool true := AS.facts_get hF 41 (by simp)
        clear hF
        simp only [h41] at hK ⊢
        clear h41
        go_simp
        exact hK.out _ _ (Below.refl _ _) (rfl) trivial
       refine AS.sc rfl rfl rfl ?_ ?_
       ·intro k_ u w_ hk_ hJ hF K hK
        have h41 : u 41 = .bool true := AS.facts_get hF 41 (by simp)
        clear hF
        simp only [h41] at hK ⊢
        clear h41
        go_simp
        exact hK.out _ _ (Below.refl _ _) (rfl) trivial
       refine AS.sc rfl rfl rfl ?_ ?_
       ·intro k_ u w_ hk_ hJ hF K hK
        have h41 : u 41 = .bool true := AS.facts_get hF 41 (by simp)
        have h52 : u 52 = undef := AS.facts_get hF 52 (by simp)
        clear hF
        simp only [h41, h52] at hK ⊢
        clear h41 h52
        go_simp
        exact hK.out _ _ (Below.refl _ _) (rfl) trivial
       exact AS.StepsOk.nil
      ·intro u W9 hJ9 hF
       have h53 : u 53 = .bool true := AS.facts_get hF 53 (by simp [rvFc, AS.temps])
       have hB9 : Below wr.heap.size wr W9 := hJ9
       clear hF hJ9
       simp only [h53]
       clear h53
       go_wp2_with fail
       go_ret
       exact ⟨by rw [E.out]; rfl, hB.trans (hB9.mono hB.size)⟩
  ·obtain rfl : k = n := by omega
   have hltz : ¬ (k : Int) < (k : Int) := by omega
   have E : Hid (rvB L g = true) := Lib.hid (by rw [HV.out]; exact HR.out)
   go_wp2_with fail
   go_ret
   exact ⟨by rw [E.out]; rfl, hB⟩
theorem reither_any (A : Option Addr) (cp : Nat) (L : List Acc) (w : World) (hz : AccAt w A L) (hl : L.length ≤ 1000) :
  Calls Try.prog 26 #[.slice A L.length cp] w fun e w' => e = .returned (.bool (eiB L)) ∧ Below w.heap.size w w' := by
 have hB := Below.refl w.heap.size w
 have h1 := fun g w h => rvalid8_any A cp L g w h hl
 have he : eiB L = (rvB L true || rvB L false) := by unfold eiB; rw [vB_eq, vB_eq, Bool.or_comm]
 rw [he]
 have HZ := Lib.hid hz
 generalize L.length = n at *
 clear hz he
 cases hf : rvB L true
 ·have h2 := h1 true
  rw [hf] at h2
  have H1 := Lib.hid h1
  have H2 := Lib.hid h2
  clear h1 h2 hf
  go_enter Try.func26, Try.ntmps26
  go_wp2_with (first | (go_at_call 12; ((with_reducible refine (H2.out _ (HZ.out.up hB)).mono ?_)); rintro e w1 ⟨rfl, hb⟩; replace hB := below_more hB hb; clear hb) | (go_at_call 12; ((with_reducible refine (H1.out _ _ (HZ.out.up hB)).mono ?_)); rintro e w1 ⟨rfl, hb⟩; replace hB := below_more hB hb; clear hb))
  go_ret
  exact ⟨rfl, hB⟩
 ·have h2 := h1 true
  rw [hf] at h2
  have H2 := Lib.hid h2
  clear h1 h2 hf
  go_enter Try.func26, Try.ntmps26
  go_wp2_with (go_at_call 12; refine (H2.out _ (HZ.out.up hB)).mono ?_; rintro e w1 ⟨rfl, hb⟩; replace hB := below_more hB hb; clear hb)
  go_ret
  exact ⟨rfl, hB⟩
theorem chfew_any (A B : Option Addr) (n m c d : Nat) (w : World) : Calls Try.prog 18 #[.slice A n c, .slice B m d] w fun e w' => e = .returned (.bool (decide (n ≤ 60) && decide (m ≤ 60))) ∧ w = w' := by
 rcases Nat.lt_or_ge 60 n with h | h
 ·have h1 : decide (n ≤ 60) = false := decide_eq_false (by omega)
  have h2 : decide ((n : Int) ≤ 60) = false := decide_eq_false (by omega)
  rw [h1]
  go_enter Try.func18, Try.ntmps18
  go_wp2_with fail
  go_ret
  exact ⟨rfl, rfl⟩
 ·have h1 : decide (n ≤ 60) = true := decide_eq_true (by omega)
  have h2 : decide ((n : Int) ≤ 60) = true := decide_eq_true (by omega)
  rcases Nat.lt_or_ge 60 m with h' | h'
  ·have h3 : decide (m ≤ 60) = false := decide_eq_false (by omega)
   have h4 : decide ((m : Int) ≤ 60) = false := decide_eq_false (by omega)
   rw [h1, h3]
   clear h h'
   go_enter Try.func18, Try.ntmps18
   go_wp2_with fail
   go_ret
   exact ⟨rfl, rfl⟩
  ·have h3 : decide (m ≤ 60) = true := decide_eq_true (by omega)
   have h4 : decide ((m : Int) ≤ 60) = true := decide_eq_true (by omega)
   rw [h1, h3]
   clear h h'
   go_enter Try.func18, Try.ntmps18
   go_wp2_with fail
   go_ret
   exact ⟨rfl, rfl⟩
def addTo8 (L : List Acc) (c : Int) (x : Bal) : Int := if c ∈ climb L x.acct then x.amt else 0
def sumC (L : List Acc) (b : List Bal) (c : Int) : Int := (b.map (addTo8 L c)).sum
theorem sumC_succ {L : List Acc} {b : List Bal} {c : Int} {k : Nat} (hk : k < b.length) : sumC L (b.take (k + 1)) c = sumC L (b.take k) c + addTo8 L c (b.getD k bal0) := by
 rw [take_succ_getD (d := bal0) hk]
 unfold sumC
 rw [List.map_append, List.sum_append]; simp
theorem amtB_is {n : Int} : amtB n = true ↔ -1000000000000 ≤ n ∧ n ≤ 1000000000000 := by unfold amtB; simp
theorem sumC_bound {L : List Acc} {c : Int} : ∀ {b : List Bal}, (∀ x ∈ b, amtB x.amt = true) → -(b.length * 1000000000000 : Int) ≤ sumC L b c ∧ sumC L b c ≤ b.length * 1000000000000
 | [], _ => by simp [sumC]
 | x :: b, h => by
  obtain ⟨h1, h2⟩ := sumC_bound (L := L) (c := c) (b := b) (fun y hy => h y (List.mem_cons_of_mem _ hy))
  have h3 := amtB_is.1 (h x (List.mem_cons_self ..))
  have h4 : sumC L (x :: b) c = addTo8 L c x + sumC L b c := by simp [sumC]
  have h5 : -1000000000000 ≤ addTo8 L c x ∧ addTo8 L c x ≤ 1000000000000 := by unfold addTo8; split <;> omega
  rw [h4]
  simp only [List.length_cons, Int.natCast_add]
  omega
def lastA (b : List Bal) : Nat → Int
 | 0 => 0
 | k + 1 => (b.getD k bal0).acct
def balP (L : List Acc) (b : List Bal) (k : Nat) : Bool := (fnd L (b.getD k bal0).acct).isSome && (decide (lastA b k < (b.getD k bal0).acct) && amtB (b.getD k bal0).amt)
def balTo (L : List Acc) (b : List Bal) : Nat → Bool
 | 0 => true
 | k + 1 => balTo L b k && balP L b k
theorem balTo_le {L : List Acc} {b : List Bal} : ∀ {k m : Nat}, k ≤ m → balTo L b m = true → balTo L b k = true
  | k, m, h, hm => by
    induction m with
    | zero => obtain rfl : k = 0 := by omega
              exact hm
    | succ m ih =>
      rcases Nat.lt_or_ge k (m + 1) with h1 | h1
      · rw [balTo, Bool.and_eq_true] at hm
        exact ih (by omega) hm.1
      · obtain rfl : k = m + 1 := by omega
        exact hm
def balB (L : List Acc) (b : List Bal) : Bool := balTo L b b.length
theorem balB_no {L : List Acc} {b : List Bal} {k : Nat} (hk : k < b.length) (h : balP L b k = false) : balB L b = false := by
 cases h1 : balTo L b b.length with
 | false => exact h1
 | true =>
  have := balTo_le (k := k + 1) (by omega) h1
  rw [balTo, h, Bool.and_false] at this; cases this
theorem balTo_is {L : List Acc} {b : List Bal} : ∀ {k : Nat}, balTo L b k = true ↔ ∀ i, i < k → balP L b i = true
 | 0 => ⟨fun _ i hi => by omega, fun _ => rfl⟩
 | k + 1 => by
  rw [balTo, Bool.and_eq_true, balTo_is]
  constructor
  ·rintro ⟨h1, h2⟩ i hi
   rcases Nat.lt_or_ge i k with h3 | h3
   ·exact h1 i h3
   ·obtain rfl : i = k := by omega
    exact h2
  ·intro h; exact ⟨fun i hi => h i (by omega), h k (by omega)⟩
theorem balP_is {L : List Acc} {b : List Bal} {k : Nat} : balP L b k = true ↔ (∃ a, fnd L (b.getD k bal0).acct = some a) ∧ lastA b k < (b.getD k bal0).acct ∧ amtB (b.getD k bal0).amt = true := by
 unfold balP
 rw [Bool.and_eq_true, Bool.and_eq_true, decide_eq_true_eq, Option.isSome_iff_exists]
structure Bals (L : List Acc) (b : List Bal) : Prop where
 fnd : ∀ k, k < b.length → ∃ a, fnd L (b.getD k bal0).acct = some a
 up : ∀ k, k < b.length → lastA b k < (b.getD k bal0).acct
 amt : ∀ x ∈ b, amtB x.amt = true
theorem balB_bals {L : List Acc} {b : List Bal} (h : balB L b = true) : Bals L b := by
 have h1 := balTo_is.1 h
 refine ⟨fun k hk => (balP_is.1 (h1 k hk)).1, fun k hk => (balP_is.1 (h1 k hk)).2.1, fun x hx => ?_⟩
 obtain ⟨k, hk, rfl⟩ := mem_getD_acc (d := bal0) hx
 exact (balP_is.1 (h1 k hk)).2.2
def okS (L : List Acc) (b : List Bal) (a : Acc) : Bool := amtB (sumC L b a.code)
def rollE (L : List Acc) (b : List Bal) : Int := if (eiB L && balB L b) = true then if L.all (okS L b) = true then 0 else 2 else 1
def pick0 (l : List Bal) : List Bal := l.filter fun x => decide (x.amt ≠ 0)
def rowsB (L : List Acc) (f : Int → Int) : List Bal := pick0 (L.map fun a => ⟨a.code, f a.code⟩)
def rollL (L : List Acc) (b : List Bal) : List Bal := if rollE L b = 0 then rowsB L (sumC L b) else []
theorem rowsB_succ {L : List Acc} {f : Int → Int} {k : Nat} (hk : k < L.length) : rowsB (L.take (k + 1)) f = if f (L.getD k acc0).code = 0 then rowsB (L.take k) f else rowsB (L.take k) f ++ [⟨(L.getD k acc0).code, f (L.getD k acc0).code⟩] := by
 rw [take_succ_getD (d := acc0) hk]
 unfold rowsB pick0
 rw [List.map_append, List.filter_append]
 generalize L.getD k acc0 = x
 simp only [List.map_cons, List.map_nil]
 split
 ·rename_i h; rw [List.filter_cons_of_neg (by simp [h])]; simp
 ·rename_i h; rw [List.filter_cons_of_pos (by simp [h])]; rfl
theorem rowsB_len {L : List Acc} {f : Int → Int} : (rowsB L f).length ≤ L.length := by
 unfold rowsB pick0
 exact Nat.le_trans (List.length_filter_le _ _) (by simp)
theorem rollE_bad {L : List Acc} {b : List Bal} (h : (eiB L && balB L b) = false) : rollE L b = 1 := by unfold rollE; rw [h]; rfl
theorem rollE_range {L : List Acc} {b : List Bal} (h : (eiB L && balB L b) = true) (h2 : L.all (okS L b) = false) : rollE L b = 2 := by unfold rollE; rw [h, h2]; rfl
theorem rollE_ok {L : List Acc} {b : List Bal} (h : (eiB L && balB L b) = true) (h2 : L.all (okS L b) = true) : rollE L b = 0 := by unfold rollE; rw [h, h2]; rfl
theorem rollL_ok {L : List Acc} {b : List Bal} (h : rollE L b = 0) : rollL L b = rowsB L (sumC L b) := by unfold rollL; rw [if_pos h]
theorem rollL_bad {L : List Acc} {b : List Bal} (h : rollE L b ≠ 0) : rollL L b = [] := by unfold rollL; rw [if_neg h]
theorem map_set_at {L : List Acc} {F : Acc → Int} {i : Nat} {v : Int} (hS : Srt L) (hi : i < L.length) : (L.map F).set i v = L.map fun a => if a.code = (L.getD i acc0).code then v else F a := by
 apply List.ext_getElem
 ·simp
 ·intro j h1 h2
  have hj : j < L.length := by simpa using h2
  rw [List.getElem_set, List.getElem_map, List.getElem_map]
  have hg : ∀ k (h : k < L.length), L[k] = L.getD k acc0 := fun k h => by rw [List.getD_eq_getElem?_getD, List.getElem?_eq_getElem h]; rfl
  rw [hg j hj]
  by_cases hij : i = j
  ·subst hij; rw [if_pos rfl, if_pos rfl]
  ·rw [if_neg hij, if_neg (fun e => hij (hS.inj hj hi e).symm)]
def wayS (base : Int → Int) (full : List Int) (amt : Int) (j : Nat) (a : Acc) : Int := base a.code + if a.code ∈ full.take j then amt else 0
theorem wayS_step {L : List Acc} {base : Int → Int} {full : List Int} {amt : Int} {j i : Nat} (hS : Srt L) (hn : full.Nodup) (hj : j < full.length) (hi : i < L.length) (hc : (L.getD i acc0).code = full.getD j 0) :
  (L.map (wayS base full amt j)).getD i 0 = base (full.getD j 0) ∧ (L.map (wayS base full amt j)).set i (base (full.getD j 0) + amt) = L.map (wayS base full amt (j + 1)) := by
 have hnm : full.getD j 0 ∉ full.take j := by
  intro hm
  obtain ⟨t, ht, e⟩ := mem_getD_acc (d := (0 : Int)) hm
  have ht2 : t < j := by rw [List.length_take] at ht; omega
  have e2 : full.getD t 0 = full.getD j 0 := by
   rw [← e, List.getD_eq_getElem?_getD, List.getD_eq_getElem?_getD, List.getElem?_take, if_pos ht2]
  rw [List.nodup_iff_pairwise_ne, List.pairwise_iff_getElem] at hn
  have := hn t j (by omega) hj ht2
  rw [List.getD_eq_getElem?_getD, List.getD_eq_getElem?_getD, List.getElem?_eq_getElem hj, List.getElem?_eq_getElem (show t < full.length by omega)] at e2
  exact this e2
 constructor
 ·rw [List.getD_eq_getElem?_getD, List.getElem?_map, List.getElem?_eq_getElem hi]
  have hg : L[i] = L.getD i acc0 := by rw [List.getD_eq_getElem?_getD, List.getElem?_eq_getElem hi]; rfl
  show wayS base full amt j L[i] = _
  rw [hg]
  unfold wayS
  rw [hc, if_neg hnm]; omega
 ·rw [map_set_at hS hi]
  apply List.map_congr_left
  intro a ha
  rw [hc]
  unfold wayS
  by_cases h : a.code = full.getD j 0
  ·rw [if_pos h, h, if_pos ((take_mem_succ hj).2 (.inr rfl))]
  ·rw [if_neg h]
   congr 1
   by_cases h2 : a.code ∈ full.take j
   ·rw [if_pos h2, if_pos ((take_mem_succ hj).2 (.inl h2))]
   ·rw [if_neg h2, if_neg (fun h3 => ((take_mem_succ hj).1 h3).elim h2 (fun h4 => h h4.symm))]
theorem wayS_start {L : List Acc} {base : Int → Int} {full : List Int} {amt : Int} : L.map (wayS base full amt 0) = L.map fun a => base a.code := by
 apply List.map_congr_left
 intro a _
 unfold wayS
 simp
theorem wayS_end {L : List Acc} {b : List Bal} {k : Nat} (hk : k < b.length) : L.map (wayS (sumC L (b.take k)) (climb L (b.getD k bal0).acct) (b.getD k bal0).amt (climb L (b.getD k bal0).acct).length) = L.map fun a => sumC L (b.take (k + 1)) a.code := by
 apply List.map_congr_left
 intro a _
 unfold wayS
 rw [sumC_succ hk, List.take_length]
 rfl
set_option maxRecDepth 20000 in
set_option maxHeartbeats 3200000 in
theorem carebal_any (A B : Option Addr) (cp d : Nat) (L : List Acc) (b : List Bal) (w : World) (hz : AccAt w A L) (hy : BalAt w B b) (hl : L.length ≤ 1000) (hm : b.length ≤ 1000) (hS : Srt L) :
    Calls Try.prog 39 #[.slice A L.length cp, .slice B b.length d] w fun e w' => e = .returned (.bool (balB L b)) ∧ Below w.heap.size w w' := by
  have hB := Below.refl w.heap.size w
  have hI := fun y w h => cidx_any A cp L y w h hl hS
  obtain ⟨n, hn⟩ : ∃ n, L.length = n := ⟨_, rfl⟩
  obtain ⟨m, hm2⟩ : ∃ m, b.length = m := ⟨_, rfl⟩
  rw [hn] at hl hI ⊢
  rw [hm2] at hm ⊢
  have HN := Lib.hid hn
  have HM := Lib.hid hm2
  have HZ := Lib.hid hz
  have HY := Lib.hid hy
  have HI := Lib.hid hI
  clear hn hm2 hz hy hI hS
  go_enter Try.func39, Try.ntmps39
  go_wp2_with fail
  go_loopg [5, 12] m (fun kx s5 s12 wr => ∃ k : Nat, s5 = .int .i64 (lastA b k) ∧ s12 = .int .i64 k ∧ k ≤ m ∧ m - k ≤ kx ∧ Hid (balTo L b k = true) ∧ Below w.heap.size w wr)
  case atStart => exact ⟨0, rfl, rfl, by omega, by omega, Lib.hid rfl, hB⟩
  case round =>
    clear hB
    obtain ⟨k, rfl, rfl, hk, hkx, HC, hB⟩ := hrel
    by_cases hlt : k < m
    · have hltz : (k : Int) < (m : Int) := by omega
      obtain ⟨bb, off, rfl, hbw, hcs⟩ := HY.out (by rw [HM.out]; omega)
      obtain ⟨c0, c1⟩ := (hcs k (by rw [HM.out]; exact hlt)).up hB hbw
      have hno := fun h => balB_no (L := L) (b := b) (k := k) (by rw [HM.out]; exact hlt) h
      have hyes : balTo L b (k + 1) = balP L b k := by rw [balTo, HC.out, Bool.true_and]
      have hla : lastA b (k + 1) = (b.getD k bal0).acct := rfl
      have hp : balP L b k = ((fnd L (b.getD k bal0).acct).isSome && (decide (lastA b k < (b.getD k bal0).acct) && amtB (b.getD k bal0).amt)) := rfl
      generalize b.getD k bal0 = x at *
      have HX := Lib.hid hla
      have HB1 := Lib.hid (below_new hB (.cells #[.int .i64 x.acct, .int .i64 x.amt] 43))
      have HAB := Lib.hid (bb_new wr 43 x)
      have hi := HI.out x.acct _ (HZ.out.up HB1.out)
      have ha := fun w => cisamt_any x.amt w
      clear hcs hla
      cases hf : (fnd L x.acct).isSome
      · rw [hf] at hi hp
        have E := Lib.hid (hno (hp.trans (by simp)))
        have HI1 := Lib.hid hi
        clear hi hf hp hyes hno ha
        go_wp2_with (go_at_call 38; refine HI1.out.mono ?_; rintro e w1 ⟨i, rfl, -, hb⟩; replace hB := below_more HB1.out hb; clear hb)
        go_ret
        exact ⟨by rw [E.out]; rfl, hB⟩
      · rw [hf, Bool.true_and] at hp
        rw [hf] at hi
        have HI1 := Lib.hid hi
        clear hi hf
        rcases Int.lt_or_le (lastA b k) x.acct with h1 | h1
        · have e1 : decide (x.acct ≤ lastA b k) = false := decide_eq_false (by omega)
          rw [decide_eq_true h1, Bool.true_and] at hp
          cases hq : amtB x.amt
          all_goals
            rw [hq] at ha hp
            have HA := Lib.hid ha
            have HP := Lib.hid hp
            have HYes := Lib.hid hyes
            have HNo := Lib.hid hno
            clear ha hp hyes hno hq h1
            go_wp2_with (first
              | (go_at_call 38; refine HI1.out.mono ?_; rintro e w1 ⟨i, rfl, -, hb⟩; obtain ⟨⟨z0, z1⟩, zlt⟩ := HAB.out.up hb; simp only [Nat.zero_add] at z1; replace hB := below_more HB1.out hb; clear hb)
              | (go_at_call 41; refine (HA.out _).mono ?_; rintro e w2 ⟨rfl, rfl⟩))
            first
              | (have E : Hid (balB L b = false) := Lib.hid (HNo.out HP.out)
                 go_ret
                 exact ⟨by rw [E.out]; rfl, hB⟩)
              | (have HC2 : Hid (balTo L b (k + 1) = true) := Lib.hid (by rw [HYes.out, HP.out])
                 go_roundg (m - (k + 1))
                 case measure => omega
                 case rel => exact ⟨k + 1, by rw [HX.out], by go_num, by omega, by omega, HC2, hB⟩)
        · have e1 : decide (x.acct ≤ lastA b k) = true := decide_eq_true h1
          rw [decide_eq_false (show ¬ lastA b k < x.acct by omega), Bool.false_and] at hp
          have E := Lib.hid (hno hp)
          clear hp hyes hno ha h1
          go_wp2_with (go_at_call 38; refine HI1.out.mono ?_; rintro e w1 ⟨i, rfl, -, hb⟩; obtain ⟨⟨z0, z1⟩, zlt⟩ := HAB.out.up hb; simp only [Nat.zero_add] at z1; replace hB := below_more HB1.out hb; clear hb)
          go_ret
          exact ⟨by rw [E.out]; rfl, hB⟩
    · obtain rfl : k = m := by omega
      have hltz : ¬ (k : Int) < (k : Int) := by omega
      have E : Hid (balB L b = true) := Lib.hid (by have := HC.out; rw [← HM.out] at this; exact this)
      generalize lastA b k = z at *
      go_wp2_with fail
      go_ret
      exact ⟨by rw [E.out]; rfl, hB⟩
set_option maxRecDepth 20000 in
set_option maxHeartbeats 3200000 in
theorem csums_any (A B : Option Addr) (cp d : Nat) (L : List Acc) (b : List Bal) (w : World) (hz : AccAt w A L) (hy : BalAt w B b) (hl : L.length ≤ 1000) (hm : b.length ≤ 1000) (hG : Good L) (hb : Bals L b) :
  Calls Try.prog 40 #[.slice A L.length cp, .slice B b.length d] w fun e w' => ∃ g, e = .returned (.slice (some ⟨g, 0, none⟩) L.length L.length) ∧ IB w' g (L.map fun a => sumC L b a.code) ∧ Below w.heap.size w w' := by
 have hI := fun y w h => cidx_any A cp L y w h hl hG.srt
 obtain ⟨n, hn⟩ : ∃ n, L.length = n := ⟨_, rfl⟩
 obtain ⟨m, hm2⟩ : ∃ m, b.length = m := ⟨_, rfl⟩
 obtain ⟨s0, hs0⟩ : ∃ s0, w.heap.size = s0 := ⟨_, rfl⟩
 have hz0 : (List.replicate n 0 : List Int) = L.map fun a => sumC L (b.take 0) a.code := by
  rw [← hn, List.take_zero]
  have : (fun a : Acc => sumC L [] a.code) = fun _ => (0 : Int) := rfl
  rw [this, List.map_const']
 rw [hn] at hl hI ⊢
 rw [hm2] at hm ⊢
 have HN := Lib.hid hn
 have HM := Lib.hid hm2
 have HZ := Lib.hid hz
 have HY := Lib.hid hy
 have HI := Lib.hid hI
 have HG := Lib.hid hG
 have HBL := Lib.hid hb
 have HS0 := Lib.hid hs0
 have HZ0 := Lib.hid hz0
 obtain ⟨i0, hi, hz1, hz2, hz3⟩ := info_parts infoI_int
 clear hn hm2 hz hy hI hG hb hs0 hz0
 go_enter Try.func40, Try.ntmps40
 go_wp2_with (at_make; refine wpList_make_zeros _ rfl (.tmp 11) (.tmp 11) 30 rfl 3 .i64 i0 8 Try.underlying30 hi hz1 hz2 hz3 .i64 .i64 _ _ n rfl rfl rfl rfl (by omega) (by omega) ?_; intro w1 hb1 hB1 hs1)
 have hI1 := IB.zeros hb1.out
 rw [HZ0.out] at hI1
 have HI1 := Lib.hid hI1
 rw [HS0.out] at hB1 HI1 hs1
 clear hb1 hI1
 rw [HS0.out]
 go_loopg [15] m (fun kx s15 wr => ∃ k : Nat, s15 = .int .i64 k ∧ k ≤ m ∧ m - k ≤ kx ∧ Hid (IB wr s0 (L.map fun a => sumC L (b.take k) a.code)) ∧ Below s0 w wr)
 case atStart => exact ⟨0, rfl, by omega, by omega, HI1, hB1⟩
 case round =>
  clear hB1 HI1 hs1
  obtain ⟨k, rfl, hk, hkx, HIB, hB⟩ := hrel
  by_cases hlt : k < m
  ·have hltz : (k : Int) < (m : Int) := by omega
   obtain ⟨bb, off, rfl, hbw, hcs⟩ := HY.out (by rw [HM.out]; omega)
   have hbs : bb < s0 := by have := HS0.out; omega
   have a2 := hcs k (by rw [HM.out]; exact hlt)
   obtain ⟨c0, c1⟩ := a2.up hB hbs
   have hend := wayS_end (L := L) (b := b) (k := k) (by rw [HM.out]; exact hlt)
   obtain ⟨ax, hax⟩ := HBL.out.fnd k (by rw [HM.out]; exact hlt)
   have hamt := amtB_is.1 (HBL.out.amt _ (getD_mem_acc (d := bal0) (show k < b.length by rw [HM.out]; exact hlt)))
   have hbound : ∀ c, -(1000 * 1000000000000 : Int) ≤ sumC L (b.take k) c ∧ sumC L (b.take k) c ≤ 1000 * 1000000000000 := fun c => by
    have h1 := sumC_bound (L := L) (c := c) (b := b.take k) (fun x hx => HBL.out.amt x (List.mem_of_mem_take hx))
    have h2 : (b.take k).length ≤ 1000 := by rw [List.length_take]; omega
    have h3 : ((b.take k).length : Int) ≤ 1000 := by omega
    omega
   obtain ⟨x, hx⟩ : ∃ x, b.getD k bal0 = x := ⟨_, rfl⟩
   rw [hx] at c0 c1 a2 hend hax hamt
   have hfl : (climb L x.acct).length ≤ L.length := ends_climb (HG.out.ends _)
   have hnd : (climb L x.acct).Nodup := climb_nodup (HG.out.ends _)
   have hf0 : climbN L (L.length + 1 - 0) x.acct = (climb L x.acct).drop 0 := rfl
   obtain ⟨full, hfull⟩ : ∃ full, climb L x.acct = full := ⟨_, rfl⟩
   rw [hfull] at hend hfl hnd hf0
   rw [HN.out] at hfl hf0
   obtain ⟨base, hbase⟩ : ∃ base, sumC L (b.take k) = base := ⟨_, rfl⟩
   rw [hbase] at hend hbound
   have HIB2 : Hid (IB wr s0 (L.map (wayS base full x.amt 0))) := Lib.hid (by rw [wayS_start, ← hbase]; exact HIB.out)
   have HEND := Lib.hid hend
   have HND := Lib.hid hnd
   have HF0 := Lib.hid hf0
   have HBD := Lib.hid hbound
   have HX := Lib.hid hx
   have hsz : s0 ≤ wr.heap.size := by have := hB.size; have := HS0.out; omega
   have HB1 := Lib.hid (hB.alloc hsz (.cells #[.int .i64 x.acct, .int .i64 x.amt] 43))
   have HAB := Lib.hid (bb_new wr 43 x)
   have HIB3 := Lib.hid (HIB2.out.alloc (.cells #[.int .i64 x.acct, .int .i64 x.amt] 43))
   have hix := HI.out x.acct _ (HZ.out.up (by rw [HS0.out]; exact HB1.out))
   have HIX := Lib.hid hix
   obtain ⟨gb, hgb⟩ : ∃ gb, wr.heap.size = gb := ⟨_, rfl⟩
   have HGB := Lib.hid hgb
   have hne : s0 ≠ gb := by have := HIB.out.lt; omega
   clear hcs a2 hend hx hnd hf0 hbound hfull hbase hax hix HIB HIB2 hgb
   obtain ⟨am1, am2⟩ := hamt
   go_wp2_with (go_at_call 38; refine HIX.out.mono ?_; rintro e w2 ⟨i, rfl, hfa, hb⟩; have HFA := Lib.hid hfa; have hB2 := HB1.out.trans (hb.mono (by (simp; omega))); have HAB2 := Lib.hid (HAB.out.up hb); have HIB4 := Lib.hid (HIB3.out.more hb); clear hb hfa)
   rw [HGB.out] at HAB2
   rw [HGB.out]
   clear HB1 HAB HIB3 HIX hB c0 c1
   go_loopg [8, 9] n (fun kx s8 s9 W => ∃ (j i : Nat) (y : Int), s8 = .int .i64 i ∧ s9 = .bool (fnd L y).isSome ∧ j ≤ full.length ∧ n - j ≤ kx ∧ Hid (FoundAt L y i) ∧ Hid (climbN L (n + 1 - j) y = full.drop j) ∧ Hid (IB W s0 (L.map (wayS base full x.amt j))) ∧ Hid (BB W gb x) ∧ Below s0 w W)
   case atStart => exact ⟨0, i, x.acct, rfl, rfl, by omega, by omega, HFA, HF0, HIB4, HAB2, hB2⟩
   case round =>
    clear HFA HF0 HIB4 HAB2 hB2
    obtain ⟨j, i, y, rfl, rfl, hj, hjx, HFA, HD, HIB, HAB, hB⟩ := hrel
    cases hc : fnd L y with
    | none =>
     have hdr : full.drop j = [] := by rw [← HD.out, climbN_none hc]
     have hjl : j = full.length := by have := congrArg List.length hdr; rw [List.length_drop] at this; simp at this; omega
     have HIB2 : Hid (IB wr s0 (L.map fun a => sumC L (b.take (k + 1)) a.code)) := Lib.hid (by rw [← HEND.out, ← hjl]; exact HIB.out)
     clear hdr hjl hc
     go_wp2_with fail
     go_roundg (m - (k + 1))
     case measure => omega
     case rel => exact ⟨k + 1, by go_num, by omega, by omega, HIB2, hB⟩
    | some a =>
     obtain ⟨hil, hie⟩ := HFA.out a hc
     have hst : climbN L (n + 1 - j) y = y :: climbN L (n - j) a.par := by
      rw [show n + 1 - j = (n - j) + 1 by omega, climbN_some hc]
     have hd1 : full.drop j = y :: climbN L (n - j) a.par := by rw [← HD.out, hst]
     have hjl : j < full.length := by have := congrArg List.length hd1; rw [List.length_drop] at this; simp at this; omega
     have hd2 := drop_getD (d := (0 : Int)) hjl
     rw [hd1] at hd2
     injection hd2 with hy2 hd3
     have HD2 : Hid (climbN L (n + 1 - (j + 1)) a.par = full.drop (j + 1)) := Lib.hid (by rw [← hd3]; congr 1; omega)
     have hci : (L.getD i acc0).code = full.getD j 0 := by rw [hie, ← hy2]; exact (fnd_some hc).2
     obtain ⟨hw1, hw2⟩ := wayS_step (L := L) (base := base) (full := full) (amt := x.amt) (j := j) (i := i) HG.out.srt HND.out hjl hil hci
     have hibl : i < (L.map (wayS base full x.amt j)).length := by simpa using hil
     have hcell := HIB.out.cell i hibl
     have hfz := HIB.out.frozen i
     have hset := HIB.out.set i (base (full.getD j 0) + x.amt)
     rw [hw1] at hcell
     rw [hw2] at hset
     obtain ⟨bd1, bd2⟩ := HBD.out (full.getD j 0)
     generalize base (full.getD j 0) = S at *
     have HSET := Lib.hid hset
     rw [HN.out] at hil
     have hiz : (i : Int) < (n : Int) := by omega
     have hgs : s0 < wr.heap.size := HIB.out.lt
     have hsz2 : s0 ≤ wr.heap.size := by omega
     have hABs : BB (wr.setCell ⟨s0, i, none⟩ (.int .i64 (S + x.amt))) gb x :=
      ⟨⟨(World.cell?_setCell_other wr _ _ _ (fun e => hne (by injection e))).trans HAB.out.cells.c0, (World.cell?_setCell_other wr _ _ _ (fun e => hne (by injection e))).trans HAB.out.cells.c1⟩, by simpa [World.setCell] using HAB.out.lt⟩
     have HABS := Lib.hid hABs
     obtain ⟨⟨z0, z1⟩, zlt⟩ := HAB.out
     simp only [Nat.zero_add] at z1
     obtain ⟨ba, offa, rfl, hbwa, hcsa⟩ := HZ.out (by rw [HN.out]; omega)
     have hbsa : ba < s0 := by have := HS0.out; omega
     have a4 := hcsa i (by rw [HN.out]; exact hil)
     rw [hie] at a4
     have HA4 := Lib.hid a4
     have hjn : j < n := by omega
     clear hst hd1 hd3 hy2 hc hie hci hw1 hw2 hset hABs hcsa a4 HFA hibl
     go_wp2_with fail
     go_region
     have HB1 : Hid (Below s0 w (wr.setCell ⟨s0, i, none⟩ (.int .i64 (S + x.amt))).drew) := Lib.hid (dc_drew (Below.setCell (p := ⟨s0, i, none⟩) hB (Nat.le_refl _) _))
     have HI1 : Hid (IB (wr.setCell ⟨s0, i, none⟩ (.int .i64 (S + x.amt))).drew s0 (L.map (wayS base full x.amt (j + 1)))) := Lib.hid HSET.out.drew
     have HA1 : Hid (BB (wr.setCell ⟨s0, i, none⟩ (.int .i64 (S + x.amt))).drew gb x) := Lib.hid ⟨⟨HABS.out.cells.c0, HABS.out.cells.c1⟩, HABS.out.lt⟩
     generalize (wr.setCell ⟨s0, i, none⟩ (.int .i64 (S + x.amt))).drew = W1 at *
     have hsz1 : s0 ≤ W1.heap.size := by have := HB1.out.size; have := HS0.out; omega
     have hix := HI.out a.par W1 (HZ.out.up (by rw [HS0.out]; exact HB1.out))
     have HIX := Lib.hid hix
     obtain ⟨e0, e1, e2, e3⟩ := HA4.out.up HB1.out hbsa
     clear hix z0 z1 zlt hcell hfz HSET HABS bd1 bd2 hB HIB HAB hgs hsz2
     go_wp2_with (go_at_call 38; refine HIX.out.mono ?_; rintro e w3 ⟨i3, rfl, hfa, hb⟩; replace hfa := Lib.hid hfa; have hB3 := HB1.out.trans (hb.mono hsz1); have HIB3 := Lib.hid (HI1.out.more hb); have HAB3 := Lib.hid (HA1.out.up hb); clear hb)
     go_roundg (n - (j + 1))
     case measure => omega
     case rel => exact ⟨j + 1, i3, a.par, rfl, rfl, by omega, by omega, hfa, HD2, HIB3, HAB3, hB3⟩
  ·obtain rfl : k = m := by omega
   have hltz : ¬ (k : Int) < (k : Int) := by omega
   have hI3 := HIB.out
   rw [List.take_of_length_le (by rw [HM.out]; omega)] at hI3
   have HI3 := Lib.hid hI3
   clear hI3
   go_wp2_with fail
   go_ret
   exact ⟨_, rfl, HI3.out, by rw [HS0.out]; exact hB⟩
set_option maxRecDepth 20000 in
set_option maxHeartbeats 3200000 in
theorem croll_any (A B : Option Addr) (cp d : Nat) (L : List Acc) (b : List Bal) (w : World) (hz : AccAt w A L) (hy : BalAt w B b) (hl : L.length ≤ 1000) (hm : b.length ≤ 1000) :
  Calls Try.prog 23 #[.slice A L.length cp, .slice B b.length d] w fun e w' => ∃ v, e = .returned (.tuple #[v, .int .i64 (rollE L b)]) ∧ SlB w' v (rollL L b) ∧ Below w.heap.size w w' := by
 have hB := Below.refl w.heap.size w
 have h1 := fun w h => cischart_any A cp L w h hl
 cases he : eiB L
 ·have E := rollE_bad (L := L) (b := b) (by rw [he]; rfl)
  have R := rollL_bad (L := L) (b := b) (by rw [E]; decide)
  rw [he] at h1
  rw [E, R]
  generalize L.length = n at *
  generalize b.length = m at *
  have H1 := Lib.hid h1
  have HZ := Lib.hid hz
  clear h1 he hz hy E R
  go_enter Try.func23, Try.ntmps23
  go_wp2_with (go_at_call 36; refine (H1.out _ (HZ.out.up hB)).mono ?_; rintro e w1 ⟨rfl, hb⟩; replace hB := below_more hB hb; clear hb)
  go_ret2
  exact ⟨_, rfl, SlB.nil, hB⟩
 have hG := eiB_good he
 rw [he] at h1
 have h2 := fun w h h' => carebal_any A B cp d L b w h h' hl hm hG.srt
 cases hb0 : balB L b
 ·have E := rollE_bad (L := L) (b := b) (by rw [hb0, Bool.and_false])
  have R := rollL_bad (L := L) (b := b) (by rw [E]; decide)
  rw [hb0] at h2
  rw [E, R]
  generalize L.length = n at *
  generalize b.length = m at *
  have H1 := Lib.hid h1
  have H2 := Lib.hid h2
  have HZ := Lib.hid hz
  have HY := Lib.hid hy
  clear h1 h2 he hz hy hb0 E R hG
  go_enter Try.func23, Try.ntmps23
  go_wp2_with (first
   | (go_at_call 36; refine (H1.out _ (HZ.out.up hB)).mono ?_; rintro e w1 ⟨rfl, hb⟩; replace hB := below_more hB hb; clear hb)
   | (go_at_call 39; refine (H2.out _ (HZ.out.up hB) (HY.out.up hB)).mono ?_; rintro e w1 ⟨rfl, hb⟩; replace hB := below_more hB hb; clear hb))
  go_ret2
  exact ⟨_, rfl, SlB.nil, hB⟩
 have hok : (eiB L && balB L b) = true := by rw [he, hb0]; rfl
 have hBL := balB_bals hb0
 rw [hb0] at h2
 have h3 := fun w h h' => csums_any A B cp d L b w h h' hl hm hG hBL
 have hP : ∀ a, okS L b a = amtB (sumC L b a.code) := fun _ => rfl
 have hE1 := fun h => rollE_range (L := L) (b := b) hok h
 have hE0 := fun h => rollE_ok (L := L) (b := b) hok h
 have hR0 := fun h => rollL_ok (L := L) (b := b) h
 have hR1 := fun h => rollL_bad (L := L) (b := b) h
 generalize rollE L b = re at *
 generalize rollL L b = rl at *
 generalize okS L b = P at *
 generalize sumC L b = f at *
 obtain ⟨n, hn⟩ : ∃ n, L.length = n := ⟨_, rfl⟩
 obtain ⟨m, hm2⟩ : ∃ m, b.length = m := ⟨_, rfl⟩
 rw [hn] at hl h1 h2 h3 ⊢
 rw [hm2] at hm h2 h3 ⊢
 have HN := Lib.hid hn
 have HZ := Lib.hid hz
 have HY := Lib.hid hy
 have H1 := Lib.hid h1
 have H2 := Lib.hid h2
 have H3 := Lib.hid h3
 have HP := Lib.hid hP
 have HE1 := Lib.hid hE1
 have HE0 := Lib.hid hE0
 have HR1 := Lib.hid hR1
 have HR0 := Lib.hid hR0
 obtain ⟨i0, hi, hz1, hz2, hz3⟩ := info_parts infoI_bal
 clear hn hm2 hz hy h1 h2 h3 he hb0 hok hG hBL hP hE1 hE0 hR1 hR0
 go_enter Try.func23, Try.ntmps23
 go_wp2_with (first
  | (go_at_call 36; refine (H1.out _ (HZ.out.up hB)).mono ?_; rintro e w1 ⟨rfl, hb⟩; replace hB := below_more hB hb; clear hb)
  | (go_at_call 39; refine (H2.out _ (HZ.out.up hB) (HY.out.up hB)).mono ?_; rintro e w1 ⟨rfl, hb⟩; replace hB := below_more hB hb; clear hb)
  | (go_at_call 40; refine (H3.out _ (HZ.out.up hB) (HY.out.up hB)).mono ?_; rintro e w2 ⟨g, rfl, hib, hb⟩; replace hB := below_more hB hb; have HIB := Lib.hid hib; clear hb hib))
 obtain ⟨s1, hs1⟩ : ∃ s1, w2.heap.size = s1 := ⟨_, rfl⟩
 have hws : w.heap.size ≤ s1 := by rw [← hs1]; exact hB.size
 have hgs : g < s1 := by rw [← hs1]; exact HIB.out.lt
 have hB1 : Below s1 w2 w2 := Below.refl _ _
 have HB := Lib.hid hB
 have HS1 := Lib.hid hs1
 clear hs1 hB
 have hO : Hid (OwnB 43 w2 s1 (.slice none 0 0) (rowsB (L.take 0) f)) := Lib.hid OwnB.nil
 go_loopg [6, 22] n (fun kx s6 s22 wr => ∃ k : Nat, s22 = .int .i64 k ∧ k ≤ n ∧ n - k ≤ kx ∧ Hid ((L.take k).all P = true) ∧ Hid (OwnB 43 wr s1 s6 (rowsB (L.take k) f)) ∧ Below s1 w2 wr)
 case atStart => exact ⟨0, rfl, by omega, by omega, Lib.hid rfl, hO, hB1⟩
 case round =>
  clear hB1 hO
  obtain ⟨k, rfl, hk, hkx, HA, hO, hB⟩ := hrel
  have hsz : s1 ≤ wr.heap.size := by have := hB.size; have := HS1.out; omega
  by_cases hlt : k < n
  ·have hltz : (k : Int) < (n : Int) := by omega
   have hcg := (hB.cell (p := ⟨g, k, none⟩) hgs).trans (HIB.out.cell k (by simp; rw [HN.out]; exact hlt))
   have hgd : (L.map fun a => f a.code).getD k 0 = f (L.getD k acc0).code := by
    rw [List.getD_eq_getElem?_getD, List.getElem?_map, List.getD_eq_getElem?_getD, List.getElem?_eq_getElem (show k < L.length by rw [HN.out]; exact hlt)]; rfl
   rw [hgd] at hcg
   obtain ⟨ba, offa, rfl, hbwa, hcsa⟩ := HZ.out (by rw [HN.out]; omega)
   obtain ⟨c0, c1, c2, c3⟩ := ((hcsa k (by rw [HN.out]; exact hlt)).up HB.out hbwa).up hB (by omega)
   have htk := rowsB_succ (L := L) (f := f) (k := k) (by rw [HN.out]; exact hlt)
   have hno := fun h => all_false_getD (d := acc0) (p := P) (L := L) (k := k) (by rw [HN.out]; exact hlt) h
   have h9 := take_all_getD (d := acc0) (p := P) L k (by rw [HN.out]; exact hlt)
   have hpx := HP.out (L.getD k acc0)
   have hln : Hid ((rowsB (L.take k) f).length ≤ 100000000) := Lib.hid (by have := rowsB_len (L := L.take k) (f := f); rw [List.length_take] at this; omega)
   generalize L.getD k acc0 = x at *
   have ha := fun w => cisamt_any (f x.code) w
   obtain ⟨S, hS⟩ : ∃ S, f x.code = S := ⟨_, rfl⟩
   rw [hS] at hcg htk hpx ha
   have H9 := Lib.hid h9
   have HNo := Lib.hid hno
   clear hcsa hgd hS h9 hno
   cases hq : amtB S
   ·rw [hq] at ha hpx
    have E := Lib.hid (HE1.out (HNo.out hpx))
    have R := Lib.hid (HR1.out (by rw [E.out]; decide))
    have HAm := Lib.hid ha
    clear ha hpx hq htk
    go_wp2_with (go_at_call 41; refine (HAm.out _).mono ?_; rintro e w3 ⟨rfl, rfl⟩)
    go_ret2
    exact ⟨_, by rw [E.out]; rfl, by rw [R.out]; exact SlB.nil, HB.out.trans (hB.mono hws)⟩
   ·rw [hq] at ha hpx
    have HAm := Lib.hid ha
    have HA2 : Hid ((L.take (k + 1)).all P = true) := Lib.hid (by rw [H9.out, HA.out, hpx]; rfl)
    clear ha hpx hq
    by_cases h0 : S = 0
    ·rw [if_pos h0] at htk
     have e0 : (S != 0) = false := by simp [h0]
     have hO2 : Hid (OwnB 43 wr s1 u6 (rowsB (L.take (k + 1)) f)) := Lib.hid (by rw [htk]; exact hO.out)
     clear h0 htk
     go_wp2_with (go_at_call 41; refine (HAm.out _).mono ?_; rintro e w3 ⟨rfl, rfl⟩)
     go_roundg (n - (k + 1))
     case measure => omega
     case rel => exact ⟨k + 1, by go_num, by omega, by omega, HA2, hO2, hB⟩
    ·rw [if_neg h0] at htk
     have e0 : (S != 0) = true := by simp [h0]
     have HTK := Lib.hid htk
     clear h0 htk
     go_wp2_with (first
      | (go_at_call 41; refine (HAm.out _).mono ?_; rintro e w3 ⟨rfl, rfl⟩)
      | (at_builtin; refine wpList_append_bg _ rfl (.tmp 32) (.tmp 40) 34 rfl s1 43 i0 16 Try.underlying34 hi hz1 hz2 hz3 (by omega) u6 _ (by rfl) hO.out x.code S _ 1 (by first | rfl | simp) rfl hln.out hsz ?_; intro v2 w4 ho2 hb2; replace ho2 := ho2.out; rw [← HTK.out] at ho2; replace ho2 := Lib.hid ho2; replace hB := hB.trans hb2; clear hb2))
     go_roundg (n - (k + 1))
     case measure => omega
     case rel => exact ⟨k + 1, by go_num, by omega, by omega, HA2, ho2, hB⟩
  ·obtain rfl : k = n := by omega
   have hltz : ¬ (k : Int) < (k : Int) := by omega
   have E := Lib.hid (HE0.out (by have := HA.out; rwa [List.take_of_length_le (by rw [HN.out]; omega)] at this))
   have ho := hO.out.slb
   rw [List.take_of_length_le (by rw [HN.out]; omega), ← HR0.out E.out] at ho
   have HO := Lib.hid ho
   clear ho
   go_wp2_with fail
   go_ret2
   exact ⟨_, by rw [E.out]; rfl, HO.out, HB.out.trans (hB.mono hws)⟩
def allTo (p : Nat → Bool) : Nat → Bool
 | 0 => true
 | k + 1 => allTo p k && p k
theorem allTo_is {p : Nat → Bool} : ∀ {k : Nat}, allTo p k = true ↔ ∀ i, i < k → p i = true
 | 0 => ⟨fun _ i hi => by omega, fun _ => rfl⟩
 | k + 1 => by
  rw [allTo, Bool.and_eq_true, allTo_is]
  constructor
  ·rintro ⟨h1, h2⟩ i hi
   rcases Nat.lt_or_ge i k with h3 | h3
   ·exact h1 i h3
   ·obtain rfl : i = k := by omega
    exact h2
  ·intro h; exact ⟨fun i hi => h i (by omega), h k (by omega)⟩
theorem allTo_no {p : Nat → Bool} {k n : Nat} (hk : k < n) (h : p k = false) : allTo p n = false := by
 cases h1 : allTo p n with
 | false => rfl
 | true => rw [allTo_is.1 h1 k hk] at h; cases h
def ascP (b : List Bal) (k : Nat) : Bool := (decide (k = 0) || decide ((b.getD (k - 1) bal0).acct < (b.getD k bal0).acct)) && amtB (b.getD k bal0).amt
def ascB (b : List Bal) : Bool := allTo (ascP b) b.length
def fndP (L : List Acc) (b : List Bal) (k : Nat) : Bool := (fnd L (b.getD k bal0).acct).isSome
theorem balB_ref {L : List Acc} {b : List Bal} (hS : Srt L) : balB L b = (allTo (fndP L b) b.length && ascB b) := by
 rw [Bool.eq_iff_iff]
 unfold balB ascB
 rw [Bool.and_eq_true, balTo_is, allTo_is, allTo_is]
 have hone : ∀ k, k < b.length → (balP L b k = true ↔ fndP L b k = true ∧ ascP b k = true) := by
  intro k hk
  unfold balP fndP ascP
  rw [Bool.and_eq_true, Bool.and_eq_true, Bool.and_eq_true, decide_eq_true_eq, Bool.or_eq_true, decide_eq_true_eq, decide_eq_true_eq]
  constructor
  ·rintro ⟨h1, h2, h3⟩
   refine ⟨h1, ?_, h3⟩
   cases k with
   | zero => exact .inl rfl
   | succ k => exact .inr (by rw [Nat.add_sub_cancel]; exact h2)
  ·rintro ⟨h1, h2, h3⟩
   refine ⟨h1, ?_, h3⟩
   cases k with
   | zero =>
    obtain ⟨a, ha⟩ := Option.isSome_iff_exists.1 h1
    obtain ⟨h4, h5⟩ := fnd_some ha
    obtain ⟨i, hi, e⟩ := mem_getD_acc (d := acc0) h4
    have := hS.pos i hi
    rw [e] at this
    simp only [lastA]; omega
   | succ k =>
    rcases h2 with h2 | h2
    ·omega
    ·rw [Nat.add_sub_cancel] at h2; exact h2
 constructor
 ·intro h; exact ⟨fun i hi => ((hone i hi).1 (h i hi)).1, fun i hi => ((hone i hi).1 (h i hi)).2⟩
 ·rintro ⟨h1, h2⟩ i hi; exact (hone i hi).2 ⟨h1 i hi, h2 i hi⟩
def ofStep (c : Int) (n : Int) (x : Bal) : Int := if x.acct = c then wrap64 (n + x.amt) else n
def ofW (b : List Bal) (c : Int) : Int := b.foldl (ofStep c) 0
theorem ofW_succ {b : List Bal} {c : Int} {k : Nat} (hk : k < b.length) : ofW (b.take (k + 1)) c = ofStep c (ofW (b.take k) c) (b.getD k bal0) := by
 unfold ofW
 rw [take_succ_getD (d := bal0) hk, List.foldl_append]; rfl
set_option maxRecDepth 20000 in
set_option maxHeartbeats 1600000 in
theorem rof8_any (B : Option Addr) (d : Nat) (b : List Bal) (c : Int) (w : World) (hy : BalAt w B b) (hm : b.length ≤ 100000) :
  Calls Try.prog 28 #[.slice B b.length d, .int .i64 c] w fun e w' => e = .returned (.int .i64 (ofW b c)) ∧ w = w' := by
 obtain ⟨m, hm2⟩ : ∃ m, b.length = m := ⟨_, rfl⟩
 rw [hm2] at hm ⊢
 have HM := Lib.hid hm2
 have HY := Lib.hid hy
 clear hm2 hy
 go_enter Try.func28, Try.ntmps28
 go_wp2_with fail
 go_loopg [5, 6] m (fun kx s5 s6 wr => ∃ k : Nat, s5 = .int .i64 (ofW (b.take k) c) ∧ s6 = .int .i64 k ∧ k ≤ m ∧ m - k ≤ kx ∧ w = wr)
 case atStart => exact ⟨0, rfl, rfl, by omega, by omega, rfl⟩
 case round =>
  obtain ⟨k, rfl, rfl, hk, hkx, rfl⟩ := hrel
  by_cases hlt : k < m
  ·have hltz : (k : Int) < (m : Int) := by omega
   obtain ⟨bb, off, rfl, hbw, hcs⟩ := HY.out (by rw [HM.out]; omega)
   obtain ⟨c0, c1⟩ := hcs k (by rw [HM.out]; exact hlt)
   have hs := ofW_succ (b := b) (c := c) (k := k) (by rw [HM.out]; exact hlt)
   generalize b.getD k bal0 = x at *
   generalize ofW (b.take k) c = S at *
   unfold ofStep at hs
   clear hcs
   by_cases he : x.acct = c
   ·rw [if_pos he] at hs
    have e0 : (x.acct == c) = true := by simp [he]
    have HS := Lib.hid hs
    clear hs he
    go_wp2_with fail
    go_roundg (m - (k + 1))
    case measure => omega
    case rel => exact ⟨k + 1, by rw [HS.out], by go_num, by omega, by omega, rfl⟩
   ·rw [if_neg he] at hs
    have e0 : (x.acct == c) = false := by simp [he]
    have HS := Lib.hid hs
    clear hs he
    go_wp2_with fail
    go_roundg (m - (k + 1))
    case measure => omega
    case rel => exact ⟨k + 1, by rw [HS.out], by go_num, by omega, by omega, rfl⟩
  ·obtain rfl : k = m := by omega
   have hltz : ¬ (k : Int) < (k : Int) := by omega
   have E : Hid (ofW b c = ofW (b.take k) c) := Lib.hid (by rw [List.take_of_length_le (by rw [HM.out]; omega)])
   generalize ofW (b.take k) c = S at *
   go_wp2_with fail
   go_ret
   exact ⟨by rw [E.out]; rfl, rfl⟩
set_option maxRecDepth 20000 in
set_option maxHeartbeats 1600000 in
theorem rasc_any (B : Option Addr) (d : Nat) (b : List Bal) (w : World) (hy : BalAt w B b) (hm : b.length ≤ 100000) :
  Calls Try.prog 47 #[.slice B b.length d] w fun e w' => e = .returned (.bool (ascB b)) ∧ Below w.heap.size w w' := by
 have hB := Below.refl w.heap.size w
 obtain ⟨m, hm2⟩ : ∃ m, b.length = m := ⟨_, rfl⟩
 have hA0 : ascB b = allTo (ascP b) m := by unfold ascB; rw [hm2]
 rw [hm2] at hm ⊢
 have HM := Lib.hid hm2
 have HY := Lib.hid hy
 have HA0 := Lib.hid hA0
 clear hm2 hy hA0
 go_enter Try.func47, Try.ntmps47
 go_wp2_with fail
 go_loopg [3] m (fun kx s3 wr => ∃ k : Nat, s3 = .int .i64 k ∧ k ≤ m ∧ m - k ≤ kx ∧ Hid (allTo (ascP b) k = true) ∧ Below w.heap.size w wr)
 case atStart => exact ⟨0, rfl, by omega, by omega, Lib.hid rfl, hB⟩
 case round =>
  clear hB
  obtain ⟨k, rfl, hk, hkx, HC, hB⟩ := hrel
  by_cases hlt : k < m
  ·have hltz : (k : Int) < (m : Int) := by omega
   obtain ⟨bb, off, rfl, hbw, hcs⟩ := HY.out (by rw [HM.out]; omega)
   obtain ⟨c0, c1⟩ := (hcs k (by rw [HM.out]; exact hlt)).up hB hbw
   have hno := fun h => HA0.out.trans (allTo_no (p := ascP b) (k := k) (n := m) hlt h)
   have hyes : allTo (ascP b) (k + 1) = ascP b k := by rw [allTo, HC.out, Bool.true_and]
   have hp : ascP b k = ((decide (k = 0) || decide ((b.getD (k - 1) bal0).acct < (b.getD k bal0).acct)) && amtB (b.getD k bal0).amt) := rfl
   generalize b.getD k bal0 = x at *
   have ha := fun w => ramt_any x.amt w
   rcases Nat.eq_zero_or_pos k with hk0 | hk0
   ·have e1 : decide (0 < k) = false := decide_eq_false (by omega)
    have e2 : decide ((0 : Int) < (k : Int)) = false := decide_eq_false (by omega)
    rw [decide_eq_true hk0, Bool.true_or, Bool.true_and] at hp
    have HNo := Lib.hid hno
    clear hcs hno hk0
    cases hq : amtB x.amt
    ·rw [hq] at ha hp
     have HAm := Lib.hid ha
     have E := Lib.hid (HNo.out hp)
     clear ha hp hq hyes
     go_wp2_with fail
     go_quiet ((go_at_call 43; exact quiet_one (same_quiet HAm.out)))
     replace hB := below_drewN hB nq
     generalize World.drewN _ nq = W1 at *
     go_wp2_with fail
     go_ret
     exact ⟨by rw [E.out]; rfl, hB⟩
    ·rw [hq] at ha hp
     have HAm := Lib.hid ha
     have HC2 := Lib.hid (hyes.trans hp)
     clear ha hp hq hyes
     go_wp2_with fail
     go_quiet ((go_at_call 43; exact quiet_one (same_quiet HAm.out)))
     replace hB := below_drewN hB nq
     generalize World.drewN _ nq = W1 at *
     go_wp2_with fail
     go_roundg (m - (k + 1))
     case measure => omega
     case rel => exact ⟨k + 1, by go_num, by omega, by omega, HC2, hB⟩
   ·obtain ⟨j, hj⟩ : ∃ j, k = j + 1 := ⟨k - 1, by omega⟩
    have hjm : j < m := by omega
    have hjz : (j : Int) < (m : Int) := by omega
    have hj1 : (k : Int) - 1 = (j : Int) := by omega
    have hj2 : IntKind.i64.wrap (j : Int) = (j : Int) := IntWalk.i64_in _ (by omega)
    have e1 : decide (0 < k) = true := decide_eq_true (by omega)
    have e2 : decide ((0 : Int) < (k : Int)) = true := decide_eq_true (by omega)
    obtain ⟨d0, d1⟩ := (hcs j (by rw [HM.out]; exact hjm)).up hB hbw
    rw [decide_eq_false (show ¬ k = 0 by omega), Bool.false_or, show k - 1 = j by omega] at hp
    generalize b.getD j bal0 = y at *
    have HNo := Lib.hid hno
    have HJ := Lib.hid hj
    clear hcs hno hk0 hj
    rcases Int.lt_or_le y.acct x.acct with h1 | h1
    ·have e3 : decide (x.acct ≤ y.acct) = false := decide_eq_false (by omega)
     rw [decide_eq_true h1, Bool.true_and] at hp
     clear h1
     cases hq : amtB x.amt
     ·rw [hq] at ha hp
      have HAm := Lib.hid ha
      have E := Lib.hid (HNo.out hp)
      clear ha hp hq hyes
      go_wp2_with fail
      go_quiet ((go_at_call 43; exact quiet_one (same_quiet HAm.out)))
      replace hB := below_drewN hB nq
      generalize World.drewN _ nq = W1 at *
      go_wp2_with fail
      go_ret
      exact ⟨by rw [E.out]; rfl, hB⟩
     ·rw [hq] at ha hp
      have HAm := Lib.hid ha
      have HC2 := Lib.hid (hyes.trans hp)
      clear ha hp hq hyes
      go_wp2_with fail
      go_quiet ((go_at_call 43; exact quiet_one (same_quiet HAm.out)))
      replace hB := below_drewN hB nq
      generalize World.drewN _ nq = W1 at *
      go_wp2_with fail
      go_roundg (m - (k + 1))
      case measure => omega
      case rel => exact ⟨k + 1, by go_num, by omega, by omega, HC2, hB⟩
    ·have e3 : decide (x.acct ≤ y.acct) = true := decide_eq_true h1
     rw [decide_eq_false (show ¬ y.acct < x.acct by omega), Bool.false_and] at hp
     have E := Lib.hid (HNo.out hp)
     clear hp hyes ha h1
     go_wp2_with fail
     go_quiet (fail)
     replace hB := below_drewN hB nq
     generalize World.drewN _ nq = W1 at *
     go_wp2_with fail
     go_ret
     exact ⟨by rw [E.out]; rfl, hB⟩
  ·obtain rfl : k = m := by omega
   have hltz : ¬ (k : Int) < (k : Int) := by omega
   have E : Hid (ascB b = true) := Lib.hid (HA0.out.trans HC.out)
   go_wp2_with fail
   go_ret
   exact ⟨by rw [E.out]; rfl, hB⟩
set_option maxRecDepth 20000 in
set_option maxHeartbeats 1600000 in
theorem rbals_any (A B : Option Addr) (cp d : Nat) (L : List Acc) (b : List Bal) (w : World) (hz : AccAt w A L) (hy : BalAt w B b) (hl : L.length ≤ 1000) (hm : b.length ≤ 1000) (hS : Srt L) :
  Calls Try.prog 42 #[.slice A L.length cp, .slice B b.length d] w fun e w' => e = .returned (.bool (balB L b)) ∧ Below w.heap.size w w' := by
 have hB := Below.refl w.heap.size w
 have hF := fun y w h => rfind_any A cp L y w h hl
 have hAs := fun w h => rasc_any B d b w h (by omega)
 have hbal := balB_ref (b := b) hS
 obtain ⟨m, hm2⟩ : ∃ m, b.length = m := ⟨_, rfl⟩
 rw [hm2] at hm hAs hbal ⊢
 generalize L.length = n at *
 have HM := Lib.hid hm2
 have HZ := Lib.hid hz
 have HY := Lib.hid hy
 have HF := Lib.hid hF
 have HAs := Lib.hid hAs
 have HBL := Lib.hid hbal
 clear hm2 hz hy hF hAs hbal
 go_enter Try.func42, Try.ntmps42
 go_wp2_with fail
 go_loopg [5] m (fun kx s5 wr => ∃ k : Nat, s5 = .int .i64 k ∧ k ≤ m ∧ m - k ≤ kx ∧ Hid (allTo (fndP L b) k = true) ∧ Below w.heap.size w wr)
 case atStart => exact ⟨0, rfl, by omega, by omega, Lib.hid rfl, hB⟩
 case round =>
  clear hB
  obtain ⟨k, rfl, hk, hkx, HC, hB⟩ := hrel
  by_cases hlt : k < m
  ·have hltz : (k : Int) < (m : Int) := by omega
   obtain ⟨bb, off, rfl, hbw, hcs⟩ := HY.out (by rw [HM.out]; omega)
   obtain ⟨c0, c1⟩ := (hcs k (by rw [HM.out]; exact hlt)).up hB hbw
   have hno := fun h => HBL.out.trans (show (allTo (fndP L b) m && ascB b) = false by rw [allTo_no (p := fndP L b) (k := k) (n := m) hlt h]; rfl)
   have hyes : allTo (fndP L b) (k + 1) = fndP L b k := by rw [allTo, HC.out, Bool.true_and]
   have hp : fndP L b k = (fnd L (b.getD k bal0).acct).isSome := rfl
   generalize b.getD k bal0 = x at *
   have hf := HF.out x.acct _ (HZ.out.up hB)
   generalize fndA L x.acct = y at *
   cases hq : (fnd L x.acct).isSome
   ·rw [hq] at hf hp
    have HFd := Lib.hid hf
    have E := Lib.hid (hno hp)
    clear hcs hno hyes hp hq hf
    go_wp2_with (go_at_call 14; refine HFd.out.mono ?_; rintro e w1 ⟨rfl, hb⟩; replace hB := below_new (below_more hB hb) (.cells #[.int .i64 y.code, .int .i64 y.kind, .int .i64 y.basis, .int .i64 y.par] 26); clear hb)
    go_ret
    exact ⟨by rw [E.out]; rfl, hB⟩
   ·rw [hq] at hf hp
    have HFd := Lib.hid hf
    have HC2 := Lib.hid (hyes.trans hp)
    clear hcs hno hyes hp hq hf
    go_wp2_with (go_at_call 14; refine HFd.out.mono ?_; rintro e w1 ⟨rfl, hb⟩; replace hB := below_new (below_more hB hb) (.cells #[.int .i64 y.code, .int .i64 y.kind, .int .i64 y.basis, .int .i64 y.par] 26); clear hb)
    go_roundg (m - (k + 1))
    case measure => omega
    case rel => exact ⟨k + 1, by go_num, by omega, by omega, HC2, hB⟩
  ·obtain rfl : k = m := by omega
   have hltz : ¬ (k : Int) < (k : Int) := by omega
   have E : Hid (balB L b = ascB b) := Lib.hid (by rw [HBL.out, HC.out, Bool.true_and])
   have has := HAs.out _ (HY.out.up hB)
   generalize ascB b = q at *
   have HAS := Lib.hid has
   clear has
   go_wp2_with (go_at_call 47; refine HAS.out.mono ?_; rintro e w1 ⟨rfl, hb⟩; replace hB := below_more hB hb; clear hb)
   go_ret
   exact ⟨by rw [E.out]; rfl, hB⟩
def rrF (ba offa bb off n m i j : Nat) (cp d : Nat) (a : Acc) (x : Bal) (C : List Int) (q : Bool) : List (Nat × AS.Fact) := [(31, AS.Fact.is (.slice (some ⟨ba, offa, none⟩) (n : Nat) cp)), (32, AS.Fact.is (.slice (some ⟨bb, off, none⟩) (m : Nat) d)), (33, AS.Fact.is (.int .i64 (j : Int))), (34, AS.Fact.is (.pointer (some ⟨bb, off + j * 2, none⟩))), (35, AS.Fact.is (.pointer (some ⟨bb, off + j * 2, none⟩))), (36, AS.Fact.is (.int .i64 x.acct)), (37, HSl C), (38, AS.Fact.is (.slice (some ⟨ba, offa, none⟩) (n : Nat) cp)), (39, AS.Fact.is (.int .i64 (i : Int))), (40, AS.Fact.is (.pointer (some ⟨ba, offa + i * 4, none⟩))), (41, AS.Fact.is (.pointer (some ⟨ba, offa + i * 4, none⟩))), (42, AS.Fact.is (.int .i64 a.code)), (43, AS.Fact.is (.bool q))]
set_option maxRecDepth 20000 in
set_option maxHeartbeats 3200000 in
theorem rroll_any (A B : Option Addr) (cp d : Nat) (L : List Acc) (b : List Bal) (w : World) (hz : AccAt w A L) (hy : BalAt w B b) (hl : L.length ≤ 1000) (hm : b.length ≤ 1000) :
  Calls Try.prog 24 #[.slice A L.length cp, .slice B b.length d] w fun e w' => ∃ v, e = .returned (.tuple #[v, .int .i64 (rollE L b)]) ∧ SlB w' v (rollL L b) ∧ Below w.heap.size w w' := by
 have hB := Below.refl w.heap.size w
 have h1 := fun w h => reither_any A cp L w h hl
 cases he : eiB L
 ·have E := rollE_bad (L := L) (b := b) (by rw [he]; rfl)
  have R := rollL_bad (L := L) (b := b) (by rw [E]; decide)
  rw [he] at h1
  rw [E, R]
  generalize L.length = n at *
  generalize b.length = m at *
  have H1 := Lib.hid h1
  have HZ := Lib.hid hz
  clear h1 he hz hy E R
  go_enter Try.func24, Try.ntmps24
  go_wp2_with (go_at_call 26; refine (H1.out _ (HZ.out.up hB)).mono ?_; rintro e w1 ⟨rfl, hb⟩; replace hB := below_more hB hb; clear hb)
  go_ret2
  exact ⟨_, rfl, SlB.nil, hB⟩
 have hG := eiB_good he
 rw [he] at h1
 have h2 := fun w h h' => rbals_any A B cp d L b w h h' hl hm hG.srt
 cases hb0 : balB L b
 ·have E := rollE_bad (L := L) (b := b) (by rw [hb0, Bool.and_false])
  have R := rollL_bad (L := L) (b := b) (by rw [E]; decide)
  rw [hb0] at h2
  rw [E, R]
  generalize L.length = n at *
  generalize b.length = m at *
  have H1 := Lib.hid h1
  have H2 := Lib.hid h2
  have HZ := Lib.hid hz
  have HY := Lib.hid hy
  clear h1 h2 he hz hy hb0 E R hG
  go_enter Try.func24, Try.ntmps24
  go_wp2_with (first
   | (go_at_call 26; refine (H1.out _ (HZ.out.up hB)).mono ?_; rintro e w1 ⟨rfl, hb⟩; replace hB := below_more hB hb; clear hb)
   | (go_at_call 42; refine (H2.out _ (HZ.out.up hB) (HY.out.up hB)).mono ?_; rintro e w1 ⟨rfl, hb⟩; replace hB := below_more hB hb; clear hb))
  go_ret2
  exact ⟨_, rfl, SlB.nil, hB⟩
 have hok : (eiB L && balB L b) = true := by rw [he, hb0]; rfl
 have hBL := balB_bals hb0
 rw [hb0] at h2
 have hcb := fun y w h => rclimb_any A cp L y w h hl
 have hle := fun y => climb_le (L := L) (c := y)
 have hP : ∀ a, okS L b a = amtB (sumC L b a.code) := fun _ => rfl
 have hE1 := fun h => rollE_range (L := L) (b := b) hok h
 have hE0 := fun h => rollE_ok (L := L) (b := b) hok h
 have hR0 := fun h => rollL_ok (L := L) (b := b) h
 have hR1 := fun h => rollL_bad (L := L) (b := b) h
 generalize rollE L b = re at *
 generalize rollL L b = rl at *
 generalize okS L b = P at *
 obtain ⟨n, hn⟩ : ∃ n, L.length = n := ⟨_, rfl⟩
 obtain ⟨m, hm2⟩ : ∃ m, b.length = m := ⟨_, rfl⟩
 obtain ⟨s0, hs0⟩ : ∃ s0, w.heap.size = s0 := ⟨_, rfl⟩
 rw [hn] at hl h1 h2 hcb hle ⊢
 rw [hm2] at hm h2 ⊢
 have HN := Lib.hid hn
 have HM := Lib.hid hm2
 have HZ := Lib.hid hz
 have HY := Lib.hid hy
 have H1 := Lib.hid h1
 have H2 := Lib.hid h2
 have HCB := Lib.hid hcb
 have HLE := Lib.hid hle
 have HP := Lib.hid hP
 have HE1 := Lib.hid hE1
 have HE0 := Lib.hid hE0
 have HR1 := Lib.hid hR1
 have HR0 := Lib.hid hR0
 have HBL := Lib.hid hBL
 have HS0 := Lib.hid hs0
 obtain ⟨i0, hi, hz1, hz2, hz3⟩ := info_parts infoI_bal
 clear hn hm2 hz hy h1 h2 hcb hle he hb0 hok hG hBL hP hE1 hE0 hR1 hR0 hs0
 go_enter Try.func24, Try.ntmps24
 go_wp2_with (first
  | (go_at_call 26; refine (H1.out _ (HZ.out.up hB)).mono ?_; rintro e w1 ⟨rfl, hb⟩; replace hB := below_more hB hb; clear hb)
  | (go_at_call 42; refine (H2.out _ (HZ.out.up hB) (HY.out.up hB)).mono ?_; rintro e w1 ⟨rfl, hb⟩; replace hB := below_more hB hb; clear hb))
 rw [HS0.out] at hB
 have hO : Hid (OwnB 43 w1 s0 (.slice none 0 0) (rowsB (L.take 0) (sumC L b))) := Lib.hid OwnB.nil
 go_loopg [6, 7] n (fun kx s6 s7 wr => ∃ i : Nat, s7 = .int .i64 i ∧ i ≤ n ∧ n - i ≤ kx ∧ Hid ((L.take i).all P = true) ∧ Hid (OwnB 43 wr s0 s6 (rowsB (L.take i) (sumC L b))) ∧ Below s0 w wr)
 case atStart => exact ⟨0, rfl, by omega, by omega, Lib.hid rfl, hO, hB⟩
 case round =>
  clear hB hO
  obtain ⟨i, rfl, hk, hkx, HA, hO, hB⟩ := hrel
  by_cases hlt : i < n
  ·have hltz : (i : Int) < (n : Int) := by omega
   obtain ⟨ba, offa, rfl, hbwa, hcsa⟩ := HZ.out (by rw [HN.out]; omega)
   have hbsa : ba < s0 := by have := HS0.out; omega
   have a4 := hcsa i (by rw [HN.out]; exact hlt)
   have htk := rowsB_succ (L := L) (f := sumC L b) (k := i) (by rw [HN.out]; exact hlt)
   have hno := fun h => all_false_getD (d := acc0) (p := P) (L := L) (k := i) (by rw [HN.out]; exact hlt) h
   have h9 := take_all_getD (d := acc0) (p := P) L i (by rw [HN.out]; exact hlt)
   have hpx := HP.out (L.getD i acc0)
   have hln : Hid ((rowsB (L.take i) (sumC L b)).length ≤ 100000000) := Lib.hid (by have := rowsB_len (L := L.take i) (f := sumC L b); rw [List.length_take] at this; omega)
   generalize L.getD i acc0 = a at *
   have HA4w := Lib.hid a4
   have H9 := Lib.hid h9
   have HNn := Lib.hid hno
   have HTK := Lib.hid htk
   have HPX := Lib.hid hpx
   clear hcsa a4 h9 hno htk hpx
   go_wp2_with fail
   go_loopg [8, 9] m (fun kx s8 s9 W => ∃ j : Nat, s8 = .int .i64 (sumC L (b.take j) a.code) ∧ s9 = .int .i64 j ∧ j ≤ m ∧ m - j ≤ kx ∧ Hid (OwnB 43 W s0 u6 (rowsB (L.take i) (sumC L b))) ∧ Below s0 w W)
   case atStart => exact ⟨0, rfl, rfl, by omega, by omega, hO, hB⟩
   case round =>
    clear hO hB
    obtain ⟨j, rfl, rfl, hj, hjx, hO, hB⟩ := hrel
    have hsz : s0 ≤ wr.heap.size := by have := hB.size; have := HS0.out; omega
    have hA4 := HA4w.out.up hB hbsa
    by_cases hjm : j < m
    ·have hjz : (j : Int) < (m : Int) := by omega
     obtain ⟨bb, off, rfl, hbwb, hcsb⟩ := HY.out (by rw [HM.out]; omega)
     have hbsb : bb < s0 := by have := HS0.out; omega
     have hx2 := (hcsb j (by rw [HM.out]; exact hjm)).up hB hbsb
     have hsc := sumC_succ (L := L) (c := a.code) (b := b) (k := j) (by rw [HM.out]; exact hjm)
     have hamt := amtB_is.1 (HBL.out.amt _ (getD_mem_acc (d := bal0) (show j < b.length by rw [HM.out]; exact hjm)))
     have hbound : -(1000 * 1000000000000 : Int) ≤ sumC L (b.take j) a.code ∧ sumC L (b.take j) a.code ≤ 1000 * 1000000000000 := by
      have h1 := sumC_bound (L := L) (c := a.code) (b := b.take j) (fun x hx => HBL.out.amt x (List.mem_of_mem_take hx))
      have h2 : (b.take j).length ≤ 1000 := by rw [List.length_take]; omega
      have h3 : ((b.take j).length : Int) ≤ 1000 := by omega
      omega
     generalize b.getD j bal0 = x at *
     have hcx := HCB.out x.acct
     have hlx := HLE.out x.acct
     unfold addTo8 at hsc
     generalize sumC L (b.take j) a.code = S at *
     generalize climb L x.acct = C at *
     obtain ⟨cl, hcl⟩ : ∃ cl, C.length = cl := ⟨_, rfl⟩
     have hha := fun A d W h => rhas_any A d C a.code W h (by omega)
     rw [hcl] at hha
     obtain ⟨q, hq⟩ : ∃ q, decide (a.code ∈ C) = q := ⟨_, rfl⟩
     rw [hq] at hha
     have hsq : sumC L (b.take (j + 1)) a.code = if q = true then S + x.amt else S := by
      rw [hsc, ← hq]
      by_cases h5 : a.code ∈ C
      ·rw [if_pos h5, if_pos (decide_eq_true h5)]
      ·rw [if_neg h5, if_neg (by rw [decide_eq_false h5]; decide)]; omega
     have HSQ := Lib.hid hsq
     have HCL := Lib.hid hcl
     have HHas := Lib.hid hha
     have HCb := Lib.hid hcx
     have HA4 := Lib.hid hA4
     have HX2 := Lib.hid hx2
     have HZW := Lib.hid (HZ.out.up (w' := wr) (by rw [HS0.out]; exact hB))
     have hbA : ba < wr.heap.size := by omega
     have hbW : bb < wr.heap.size := by omega
     obtain ⟨am1, am2⟩ := hamt
     obtain ⟨bd1, bd2⟩ := hbound
     clear hcsb hx2 hsc hcx hlx hcl hha hq hsq hA4
     go_wp2_with fail
     refine AS.region_facts (rrF ba offa bb off n m i j cp d a x C q) (HNo wr) [[], [], [], [32, 33], [34], [35], [31, 36], [], [], [38, 39], [40], [41], [37, 42]] [] [[]] [0, 0, 0, 0, 0, 0, 0, 0, 0, 0, 0, 0, 0] [] (fun u => by simp only [rrF, AS.temps, List.map_cons, List.map_nil, fillL, List.setIfInBounds_toArray, List.set_cons_zero, List.set_cons_succ]; rfl) (by kernel_rfl) (by kernel_rfl) (HNo.st wr) (dc_drew (Below.refl _ _)) ?_ ?_
     ·refine AS.sc rfl rfl rfl ?_ ?_
      ·intro k_ u w_ hk_ hJ hF K hK
       clear hF
       go_simp
       exact hK.out _ _ (Below.refl _ _) (rfl) trivial
      refine AS.sc rfl rfl rfl ?_ ?_
      ·intro k_ u w_ hk_ hJ hF K hK
       clear hF
       go_simp
       exact hK.out _ _ (Below.refl _ _) (rfl) trivial
      refine AS.sc rfl rfl rfl ?_ ?_
      ·intro k_ u w_ hk_ hJ hF K hK
       clear hF
       go_simp
       exact hK.out _ _ (Below.refl _ _) (rfl) trivial
      refine AS.sc rfl rfl rfl ?_ ?_
      ·intro k_ u w_ hk_ hJ hF K hK
       have h32 : u 32 = .slice (some ⟨bb, off, none⟩) (m : Nat) d := AS.facts_get hF 32 (by simp)
       have h33 : u 33 = .int .i64 (j : Int) := AS.facts_get hF 33 (by simp)
       clear hF
       simp only [h32, h33] at hK ⊢
       clear h32 h33
       go_simp
       exact hK.out _ _ (Below.refl _ _) (rfl) trivial
      refine AS.sc rfl rfl rfl ?_ ?_
      ·intro k_ u w_ hk_ hJ hF K hK
       have h34 : u 34 = .pointer (some ⟨bb, off + j * 2, none⟩) := AS.facts_get hF 34 (by simp)
       clear hF
       simp only [h34] at hK ⊢
       clear h34
       go_simp
       exact hK.out _ _ (Below.refl _ _) (rfl) trivial
      refine AS.sc rfl rfl rfl ?_ ?_
      ·intro k_ u w_ hk_ hJ hF K hK
       have h35 : u 35 = .pointer (some ⟨bb, off + j * 2, none⟩) := AS.facts_get hF 35 (by simp)
       clear hF
       simp only [h35] at hK ⊢
       clear h35
       obtain ⟨c0, c1⟩ := HX2.out.up (hJ : Below wr.heap.size wr w_) hbW
       go_simp
       exact hK.out _ _ (Below.refl _ _) (rfl) trivial
      refine AS.sc rfl rfl rfl ?_ ?_
      ·intro k_ u w_ hk_ hJ hF K hK
       have h31 : u 31 = .slice (some ⟨ba, offa, none⟩) (n : Nat) cp := AS.facts_get hF 31 (by simp)
       have h36 : u 36 = .int .i64 x.acct := AS.facts_get hF 36 (by simp)
       clear hF
       simp only [h31, h36] at hK ⊢
       clear h31 h36
       have hz9 := HZW.out.up (hJ : Below wr.heap.size wr w_)
       go_simp
       refine (HCb.out _ hz9).mono ?_
       rintro e w3 ⟨v, rfl, h9, hb⟩
       exact hK.out _ _ hb h9 trivial
      refine AS.sc rfl rfl rfl ?_ ?_
      ·intro k_ u w_ hk_ hJ hF K hK
       clear hF
       go_simp
       exact hK.out _ _ (Below.refl _ _) (rfl) trivial
      refine AS.sc rfl rfl rfl ?_ ?_
      ·intro k_ u w_ hk_ hJ hF K hK
       clear hF
       go_simp
       exact hK.out _ _ (Below.refl _ _) (rfl) trivial
      refine AS.sc rfl rfl rfl ?_ ?_
      ·intro k_ u w_ hk_ hJ hF K hK
       have h38 : u 38 = .slice (some ⟨ba, offa, none⟩) (n : Nat) cp := AS.facts_get hF 38 (by simp)
       have h39 : u 39 = .int .i64 (i : Int) := AS.facts_get hF 39 (by simp)
       clear hF
       simp only [h38, h39] at hK ⊢
       clear h38 h39
       go_simp
       exact hK.out _ _ (Below.refl _ _) (rfl) trivial
      refine AS.sc rfl rfl rfl ?_ ?_
      ·intro k_ u w_ hk_ hJ hF K hK
       have h40 : u 40 = .pointer (some ⟨ba, offa + i * 4, none⟩) := AS.facts_get hF 40 (by simp)
       clear hF
       simp only [h40] at hK ⊢
       clear h40
       go_simp
       exact hK.out _ _ (Below.refl _ _) (rfl) trivial
      refine AS.sc rfl rfl rfl ?_ ?_
      ·intro k_ u w_ hk_ hJ hF K hK
       have h41 : u 41 = .pointer (some ⟨ba, offa + i * 4, none⟩) := AS.facts_get hF 41 (by simp)
       clear hF
       simp only [h41] at hK ⊢
       clear h41
       obtain ⟨c0, c1, c2, c3⟩ := HA4.out.up (hJ : Below wr.heap.size wr w_) hbA
       go_simp
       exact hK.out _ _ (Below.refl _ _) (rfl) trivial
      refine AS.sc rfl rfl rfl ?_ ?_
      ·intro k_ u w_ hk_ hJ hF K hK
       have h37 : SlI w_ (u 37) C := AS.facts_get hF 37 (by simp)
       have h42 : u 42 = .int .i64 a.code := AS.facts_get hF 42 (by simp)
       clear hF
       obtain ⟨A8, d8, h37, hI8⟩ := h37
       rw [HCL.out] at h37
       simp only [h37, h42] at hK ⊢
       clear h37 h42
       go_simp
       refine (HHas.out _ _ _ hI8).mono ?_
       rintro e w3 ⟨rfl, hw3⟩
       subst hw3
       exact hK.out _ _ (Below.refl _ _) (rfl) trivial
      exact AS.StepsOk.nil
     ·intro u W9 hJ9 hF
      have h43 : u 43 = .bool q := AS.facts_get hF 43 (by simp [rrF, AS.temps])
      have hB9 : Below wr.heap.size wr W9 := hJ9
      clear hF hJ9
      simp only [h43]
      clear h43
      have hO2 := Lib.hid (hO.out.up hB9)
      have hB2 := hB.trans (hB9.mono hsz)
      cases q
      ·have HS2 : Hid (S = sumC L (b.take (j + 1)) a.code) := Lib.hid (by rw [HSQ.out, if_neg (by decide)])
       clear am1 am2 bd1 bd2
       go_wp2_with fail
       go_roundg (m - (j + 1))
       case measure => omega
       case rel => exact ⟨j + 1, by rw [HS2.out], by go_num, by omega, by omega, hO2, hB2⟩
      ·have HS2 : Hid (S + x.amt = sumC L (b.take (j + 1)) a.code) := Lib.hid (by rw [HSQ.out, if_pos rfl])
       obtain ⟨c0, c1⟩ := HX2.out.up hB9 hbW
       go_wp2_with fail
       go_roundg (m - (j + 1))
       case measure => omega
       case rel => exact ⟨j + 1, by rw [HS2.out], by go_num, by omega, by omega, hO2, hB2⟩
    ·obtain rfl : j = m := by omega
     have hjz : ¬ (j : Int) < (j : Int) := by omega
     have hall : sumC L (b.take j) a.code = sumC L b a.code := by rw [List.take_of_length_le (by rw [HM.out]; omega)]
     rw [hall]
     have ha := fun w => ramt_any (sumC L b a.code) w
     obtain ⟨S, hS⟩ : ∃ S, sumC L b a.code = S := ⟨_, rfl⟩
     have htk := HTK.out
     have hpx := HPX.out
     rw [hS] at ha htk hpx ⊢
     have HA4 := Lib.hid hA4
     obtain ⟨c0, c1, c2, c3⟩ := hA4
     clear hall hS HTK HPX
     cases hq : amtB S
     ·rw [hq] at ha hpx
      have E := Lib.hid (HE1.out (HNn.out hpx))
      have R := Lib.hid (HR1.out (by rw [E.out]; decide))
      have HAm := Lib.hid ha
      clear ha hpx hq htk
      go_wp2_with (go_at_call 43; refine (HAm.out _).mono ?_; rintro e w3 ⟨rfl, rfl⟩)
      go_ret2
      exact ⟨_, by rw [E.out]; rfl, by rw [R.out]; exact SlB.nil, by rw [HS0.out]; exact hB⟩
     ·rw [hq] at ha hpx
      have HAm := Lib.hid ha
      have HA2 : Hid ((L.take (i + 1)).all P = true) := Lib.hid (by rw [H9.out, HA.out, hpx]; rfl)
      clear ha hpx hq
      by_cases h0 : S = 0
      ·rw [if_pos h0] at htk
       have e0 : (S != 0) = false := by simp [h0]
       have hO2 : Hid (OwnB 43 wr s0 u6 (rowsB (L.take (i + 1)) (sumC L b))) := Lib.hid (by rw [htk]; exact hO.out)
       clear h0 htk
       go_wp2_with (go_at_call 43; refine (HAm.out _).mono ?_; rintro e w3 ⟨rfl, rfl⟩)
       go_roundg (n - (i + 1))
       case measure => omega
       case rel => exact ⟨i + 1, by go_num, by omega, by omega, HA2, hO2, hB⟩
      ·rw [if_neg h0] at htk
       have e0 : (S != 0) = true := by simp [h0]
       have HTK := Lib.hid htk
       clear h0 htk
       go_wp2_with (first
        | (go_at_call 43; refine (HAm.out _).mono ?_; rintro e w3 ⟨rfl, rfl⟩)
        | (at_builtin; refine wpList_append_bg _ rfl (.tmp 56) (.tmp 64) 34 rfl s0 43 i0 16 Try.underlying34 hi hz1 hz2 hz3 (by omega) _ _ (by rfl) hO.out a.code S _ 1 (by first | rfl | simp) rfl hln.out hsz ?_; intro v2 w4 ho2 hb2; replace ho2 := ho2.out; rw [← HTK.out] at ho2; replace ho2 := Lib.hid ho2; replace hB := hB.trans hb2; clear hb2))
       go_roundg (n - (i + 1))
       case measure => omega
       case rel => exact ⟨i + 1, by go_num, by omega, by omega, HA2, ho2, hB⟩
  ·obtain rfl : i = n := by omega
   have hltz : ¬ (i : Int) < (i : Int) := by omega
   have E := Lib.hid (HE0.out (by have := HA.out; rwa [List.take_of_length_le (by rw [HN.out]; omega)] at this))
   have ho := hO.out.slb
   rw [List.take_of_length_le (by rw [HN.out]; omega), ← HR0.out E.out] at ho
   have HO := Lib.hid ho
   clear ho
   go_wp2_with fail
   go_ret2
   exact ⟨_, by rw [E.out]; rfl, HO.out, by rw [HS0.out]; exact hB⟩
set_option maxRecDepth 20000 in
set_option maxHeartbeats 1600000 in
theorem rsameb_any (A B : Option Addr) (c d : Nat) (zs ys : List Bal) (w : World) (hz : BalAt w A zs) (hy : BalAt w B ys) (hl : zs.length ≤ 100000) (hl2 : ys.length ≤ 100000) :
  Calls Try.prog 25 #[.slice A zs.length c, .slice B ys.length d] w fun e w' => e = .returned (.bool (decide (zs = ys))) ∧ Below w.heap.size w w' := by
 have hB := Below.refl w.heap.size w
 obtain ⟨n, hn⟩ : ∃ n, zs.length = n := ⟨_, rfl⟩
 obtain ⟨m, hm⟩ : ∃ m, ys.length = m := ⟨_, rfl⟩
 rw [hn] at hl ⊢
 rw [hm] at hl2 ⊢
 by_cases hnm : n = m
 ·subst hnm
  have HN := Lib.hid hn
  have HM := Lib.hid hm
  have HZ := Lib.hid hz
  have HY := Lib.hid hy
  clear hn hm hz hy
  have hnn : ((n : Int) != (n : Int)) = false := by simp
  go_enter Try.func25, Try.ntmps25
  go_wp2_with fail
  go_loopg [5] n (fun kx s5 wr => ∃ k : Nat, s5 = .int .i64 k ∧ k ≤ n ∧ n - k ≤ kx ∧ Hid (zs.take k = ys.take k) ∧ Below w.heap.size w wr)
  case atStart => exact ⟨0, rfl, by omega, by omega, Lib.hid (by simp), hB⟩
  case round =>
   clear hB
   obtain ⟨k, rfl, hk, hkx, HT, hB⟩ := hrel
   by_cases hlt : k < n
   ·have hltz : (k : Int) < (n : Int) := by omega
    obtain ⟨b, off, rfl, hbw, hcs⟩ := HZ.out (by rw [HN.out]; omega)
    obtain ⟨b2, off2, rfl, hbw2, hcs2⟩ := HY.out (by rw [HM.out]; omega)
    obtain ⟨c0, c1⟩ := (hcs k (by rw [HN.out]; exact hlt)).up hB hbw
    obtain ⟨d0, d1⟩ := (hcs2 k (by rw [HM.out]; exact hlt)).up hB hbw2
    have ht1 := take_succ_getD (d := bal0) (L := zs) (i := k) (by rw [HN.out]; exact hlt)
    have ht2 := take_succ_getD (d := bal0) (L := ys) (i := k) (by rw [HM.out]; exact hlt)
    generalize zs.getD k bal0 = x at *
    generalize ys.getD k bal0 = y at *
    by_cases hxy : x = y
    ·subst hxy
     have HT2 : Hid (zs.take (k + 1) = ys.take (k + 1)) := Lib.hid (by rw [ht1, ht2, HT.out])
     clear ht1 ht2 hcs hcs2
     go_wp2_with fail
     go_quiet (fail)
     replace hB := below_drewN hB nq
     generalize World.drewN _ nq = W1 at *
     go_wp2_with fail
     go_roundg (n - (k + 1))
     case measure => omega
     case rel => exact ⟨k + 1, by go_num, by omega, by omega, HT2, hB⟩
    ·have hno : Hid (decide (zs = ys) = false) := Lib.hid (decide_eq_false fun e => by
      rw [e, ht2] at ht1
      have := List.append_cancel_left ht1
      simp at this; exact hxy this.symm)
     have hne : x.acct ≠ y.acct ∨ (x.acct = y.acct ∧ x.amt ≠ y.amt) := by
      by_cases h1 : x.acct = y.acct
      ·exact .inr ⟨h1, fun h2 => hxy (by cases x; cases y; simp at h1 h2; rw [h1, h2])⟩
      ·exact .inl h1
     clear ht1 ht2 hcs hcs2 hxy
     rcases hne with h1 | ⟨h1, h2⟩
     ·have q1 : (x.acct == y.acct) = false := by simp [h1]
      clear h1
      go_wp2_with fail
      go_quiet (fail)
      replace hB := below_drewN hB nq
      generalize World.drewN _ nq = W1 at *
      go_wp2_with fail
      go_ret
      exact ⟨by rw [hno.out]; rfl, hB⟩
     ·have q1 : (x.acct == y.acct) = true := by simp [h1]
      have q2 : (x.amt == y.amt) = false := by simp [h2]
      clear h1 h2
      go_wp2_with fail
      go_quiet (fail)
      replace hB := below_drewN hB nq
      generalize World.drewN _ nq = W1 at *
      go_wp2_with fail
      go_ret
      exact ⟨by rw [hno.out]; rfl, hB⟩
   ·obtain rfl : k = n := by omega
    have hltz : ¬ (k : Int) < (k : Int) := by omega
    have hyes : Hid (decide (zs = ys) = true) := Lib.hid (decide_eq_true (by have h := HT.out; rwa [List.take_of_length_le (by rw [HN.out]; omega), List.take_of_length_le (by rw [HM.out]; omega)] at h))
    go_wp2_with fail
    go_ret
    exact ⟨by rw [hyes.out]; rfl, hB⟩
 ·have hno : Hid (decide (zs = ys) = false) := Lib.hid (decide_eq_false fun e => hnm (by rw [← hn, ← hm, e]))
  have hnn : ((n : Int) != (m : Int)) = true := by simp; omega
  clear hn hm hz hy
  go_enter Try.func25, Try.ntmps25
  go_wp2_with fail
  go_ret
  exact ⟨by rw [hno.out]; rfl, hB⟩
end Go.Proofs.Ytlhdnmpklaohkaa
