/- Contracts and the law of MappingValid, part 3: what was proved of each, callees first. -/
import Derived.Test.YtmahnpbjjadipaaMV2
namespace Go.Proofs.Ytmahnpbjjadipaa
open Go.RowKit
def mvF1 (nm cur : ByteArray) (A : Option Addr) (n c : Nat) (B : Option Addr) (m d : Nat) (jt : Bool) (_C : Option Addr) (_k _cc _s0 : Nat) (_q : Bool) : List (Nat × AS.Fact) := [(7, AS.Fact.is (.agg #[.string nm, .string cur, .slice A n c, .slice B m d, .bool jt])), (8, AS.Fact.is (.bool false)), (9, AS.Fact.is (.bool true)), (10, AS.Fact.is (.bool true)), (11, AS.Fact.is (undef)), (12, AS.Fact.is (undef)), (13, AS.Fact.is (undef)), (14, AS.Fact.is (.bool true)), (15, AS.Fact.is (.bool true)), (16, AS.Fact.is (undef)), (17, AS.Fact.is (undef)), (18, AS.Fact.is (undef)), (19, AS.Fact.is (undef)), (20, AS.Fact.is (undef)), (21, AS.Fact.is (undef)), (22, AS.Fact.is (undef)), (23, AS.Fact.is (.bool true)), (4, AS.Fact.is (.bool true))]
def mvF2 (nm cur : ByteArray) (A : Option Addr) (n c : Nat) (B : Option Addr) (m d : Nat) (jt : Bool) (C : Option Addr) (k cc _s0 : Nat) (_q : Bool) : List (Nat × AS.Fact) := [(7, AS.Fact.is (.agg #[.string nm, .string cur, .slice A n c, .slice B m d, .bool jt])), (8, AS.Fact.is (.bool true)), (9, AS.Fact.is (.bool false)), (10, AS.Fact.is (.bool false)), (11, AS.Fact.is (.slice C (k : Nat) cc)), (12, AS.Fact.is (.int .i64 (k : Int))), (13, AS.Fact.is (.bool true)), (14, AS.Fact.is (.bool true)), (15, AS.Fact.is (.bool true)), (16, AS.Fact.is (undef)), (17, AS.Fact.is (undef)), (18, AS.Fact.is (undef)), (19, AS.Fact.is (undef)), (20, AS.Fact.is (undef)), (21, AS.Fact.is (undef)), (22, AS.Fact.is (undef)), (23, AS.Fact.is (.bool true)), (4, AS.Fact.is (.bool true))]
def mvF3 (nm cur : ByteArray) (A : Option Addr) (n c : Nat) (B : Option Addr) (m d : Nat) (jt : Bool) (C : Option Addr) (k cc _s0 : Nat) (q : Bool) : List (Nat × AS.Fact) := [(7, AS.Fact.is (.agg #[.string nm, .string cur, .slice A n c, .slice B m d, .bool jt])), (8, AS.Fact.is (.bool true)), (9, AS.Fact.is (.bool false)), (10, AS.Fact.is (.bool false)), (11, AS.Fact.is (.slice C (k : Nat) cc)), (12, AS.Fact.is (.int .i64 (k : Int))), (13, AS.Fact.is (.bool false)), (14, AS.Fact.is (.bool false)), (15, AS.Fact.is (.bool false)), (16, AS.Fact.is (.agg #[.string nm, .string cur, .slice A n c, .slice B m d, .bool jt])), (17, AS.Fact.is (.slice C (k : Nat) cc)), (18, AS.Fact.is (.bool q)), (19, AS.Fact.is (.agg #[.string nm, .string cur, .slice A n c, .slice B m d, .bool jt])), (20, AS.Fact.is (.slice C (k : Nat) cc)), (21, AS.Fact.is (.bool q)), (22, AS.Fact.is (.bool true)), (23, AS.Fact.is (.bool true)), (4, AS.Fact.is (.bool true))]
set_option maxRecDepth 20000 in
set_option maxHeartbeats 3200000 in
theorem law_mpvalid (nm cur : ByteArray) (A : Option Addr) (n c : Nat) (L : List Acc) (B : Option Addr) (m d : Nat) (K : List Lnk) (jt : Bool) (C : Option Addr) (k cc : Nat) (Lc : List Acc) (w : World) (hk : EntK w A n L B m K) (hlen : Lc.length = k) (hx : AccAt w C Lc) :
  Calls Try.prog 3 #[entV nm cur A n c B m d jt, .slice C k cc] w fun e w' => e = .returned (.bool true) ∧ Below w.heap.size w w' := by
 have hB := below_alloc_new (w := w) (.cells #[.string nm, .string cur, .slice A n c, .slice B m d, .bool jt] 25)
 have HE := Lib.hid (eb_new w 25 nm cur A n c B m d jt)
 have HZ := Lib.hid (hk.hz.up hB)
 have HY := Lib.hid (hk.hy.up hB)
 have hfw := fun w => rfew9_any nm cur A n c B m d jt w
 have hfq := fewB_is (nm := nm) (cur := cur) (n := n) (m := m)
 generalize fewB nm cur n m = fb at *
 have HX := Lib.hid (hx.up hB)
 have h1 : n ≤ 60 → m ≤ 60 → k ≤ 60 → ∀ w, AccAt w A L → LnkAt w B K → AccAt w C Lc → Calls Try.prog 11 #[entV nm cur A n c B m d jt, .slice C k cc] w fun e w' => e = .returned (.bool (mvB L K Lc)) ∧ Below w.heap.size w w' := fun h5 h6 h7 w hz hy hx => by
  have h8 := cval9_any nm cur A c L B d K jt C cc Lc w hz hy hx (by have := hk.ln; omega) (by have := hk.lm; omega) (by omega) hk.wl
  rw [hk.ln, hk.lm, hlen] at h8
  exact h8
 have h2 : n ≤ 60 → m ≤ 60 → k ≤ 60 → ∀ w, AccAt w A L → LnkAt w B K → AccAt w C Lc → Calls Try.prog 12 #[entV nm cur A n c B m d jt, .slice C k cc] w fun e w' => e = .returned (.bool (mvB L K Lc)) ∧ Below w.heap.size w w' := fun h5 h6 h7 w hz hy hx => by
  have h8 := rval9_any nm cur A c L B d K jt C cc Lc w hz hy hx (by have := hk.ln; omega) (by have := hk.lm; omega) (by omega)
  rw [hk.ln, hk.lm, hlen] at h8
  exact h8
 generalize mvB L K Lc = q at *
 have eq : (q == q) = true := by simp
 obtain ⟨s0, hs0⟩ : ∃ s0, w.heap.size = s0 := ⟨_, rfl⟩
 rw [hs0] at hB HE
 have HS0 := Lib.hid hs0
 have HFW := Lib.hid hfw
 clear hk hx hlen hfw hs0
 go_enter Try.func3, Try.ntmps3
 go_wp2_with (go_at_call 9; refine (mpawake_any _).mono ?_; rintro e w1 ⟨rfl, hb⟩; replace HE := Lib.hid (HE.out.up hb); replace HZ := Lib.hid (HZ.out.up hb); replace HY := Lib.hid (HY.out.up hb); replace HX := Lib.hid (HX.out.up hb); have hsq := hB.size; rw [HS0.out] at hsq; replace hB := hB.trans (hb.mono hsq); clear hb hsq)
 rw [HS0.out]
 rename World => wr
 have hsz : s0 ≤ wr.heap.size := by have := hB.size; have := HS0.out; omega
 cases fb
 ·clear h1 h2 hfq
  refine AS.region_facts (mvF1 nm cur A n c B m d jt C k cc s0 q) (HNo wr) [[], [7], [8], [9], [10], [10], [10], [10, 13], [14], [15], [15], [15], [15], [15], [15], [15], [15, 22], [23]] [] [[]] [0, 0, 0, 0, 0, 0, 0, 0, 0, 0, 0, 0, 0, 0, 0, 0, 0, 0] [] (fun u => by simp only [mvF1, AS.temps, List.map_cons, List.map_nil, fillL, List.setIfInBounds_toArray, List.set_cons_zero, List.set_cons_succ]; rfl) (by kernel_rfl) (by kernel_rfl) (HNo.st wr) (dc_drew (Below.refl _ _)) ?_ ?_
  ·refine AS.sc rfl rfl rfl ?_ ?_
   ·intro k_ u w_ hk_ hJ hF K hK
    clear hF
    obtain ⟨c0, c1, c2, c3, c4, lt⟩ := HE.out.up (hJ : Below wr.heap.size wr w_)
    go_simp
    exact hK.out _ _ (Below.refl _ _) (rfl) trivial
   refine AS.sc rfl rfl rfl ?_ ?_
   ·intro k_ u w_ hk_ hJ hF K hK
    have h7 : u 7 = .agg #[.string nm, .string cur, .slice A n c, .slice B m d, .bool jt] := AS.facts_get hF 7 (by simp)
    clear hF
    simp only [h7] at hK ⊢
    clear h7
    go_simp
    refine (HFW.out _).mono ?_
    rintro e w3 ⟨rfl, hb⟩
    exact hK.out _ _ hb (rfl) trivial
   refine AS.sc rfl rfl rfl ?_ ?_
   ·intro k_ u w_ hk_ hJ hF K hK
    have h8 : u 8 = .bool false := AS.facts_get hF 8 (by simp)
    clear hF
    simp only [h8] at hK ⊢
    clear h8
    go_simp
    exact hK.out _ _ (Below.refl _ _) (rfl) trivial
   refine AS.sc rfl rfl rfl ?_ ?_
   ·intro k_ u w_ hk_ hJ hF K hK
    have h9 : u 9 = .bool true := AS.facts_get hF 9 (by simp)
    clear hF
    simp only [h9] at hK ⊢
    clear h9
    go_simp
    exact hK.out _ _ (Below.refl _ _) (rfl) trivial
   refine AS.sc rfl rfl rfl ?_ ?_
   ·intro k_ u w_ hk_ hJ hF K hK
    have h10 : u 10 = .bool true := AS.facts_get hF 10 (by simp)
    clear hF
    simp only [h10] at hK ⊢
    clear h10
    go_simp
    exact hK.out _ _ (Below.refl _ _) (rfl) trivial
   refine AS.sc rfl rfl rfl ?_ ?_
   ·intro k_ u w_ hk_ hJ hF K hK
    have h10 : u 10 = .bool true := AS.facts_get hF 10 (by simp)
    clear hF
    simp only [h10] at hK ⊢
    clear h10
    go_simp
    exact hK.out _ _ (Below.refl _ _) (rfl) trivial
   refine AS.sc rfl rfl rfl ?_ ?_
   ·intro k_ u w_ hk_ hJ hF K hK
    have h10 : u 10 = .bool true := AS.facts_get hF 10 (by simp)
    clear hF
    simp only [h10] at hK ⊢
    clear h10
    go_simp
    exact hK.out _ _ (Below.refl _ _) (rfl) trivial
   refine AS.sc rfl rfl rfl ?_ ?_
   ·intro k_ u w_ hk_ hJ hF K hK
    have h10 : u 10 = .bool true := AS.facts_get hF 10 (by simp)
    have h13 : u 13 = undef := AS.facts_get hF 13 (by simp)
    clear hF
    simp only [h10, h13] at hK ⊢
    clear h10 h13
    go_simp
    exact hK.out _ _ (Below.refl _ _) (rfl) trivial
   refine AS.sc rfl rfl rfl ?_ ?_
   ·intro k_ u w_ hk_ hJ hF K hK
    have h14 : u 14 = .bool true := AS.facts_get hF 14 (by simp)
    clear hF
    simp only [h14] at hK ⊢
    clear h14
    go_simp
    exact hK.out _ _ (Below.refl _ _) (rfl) trivial
   refine AS.sc rfl rfl rfl ?_ ?_
   ·intro k_ u w_ hk_ hJ hF K hK
    have h15 : u 15 = .bool true := AS.facts_get hF 15 (by simp)
    clear hF
    simp only [h15] at hK ⊢
    clear h15
    go_simp
    exact hK.out _ _ (Below.refl _ _) (rfl) trivial
   refine AS.sc rfl rfl rfl ?_ ?_
   ·intro k_ u w_ hk_ hJ hF K hK
    have h15 : u 15 = .bool true := AS.facts_get hF 15 (by simp)
    clear hF
    simp only [h15] at hK ⊢
    clear h15
    go_simp
    exact hK.out _ _ (Below.refl _ _) (rfl) trivial
   refine AS.sc rfl rfl rfl ?_ ?_
   ·intro k_ u w_ hk_ hJ hF K hK
    have h15 : u 15 = .bool true := AS.facts_get hF 15 (by simp)
    clear hF
    simp only [h15] at hK ⊢
    clear h15
    go_simp
    exact hK.out _ _ (Below.refl _ _) (rfl) trivial
   refine AS.sc rfl rfl rfl ?_ ?_
   ·intro k_ u w_ hk_ hJ hF K hK
    have h15 : u 15 = .bool true := AS.facts_get hF 15 (by simp)
    clear hF
    simp only [h15] at hK ⊢
    clear h15
    go_simp
    exact hK.out _ _ (Below.refl _ _) (rfl) trivial
   refine AS.sc rfl rfl rfl ?_ ?_
   ·intro k_ u w_ hk_ hJ hF K hK
    have h15 : u 15 = .bool true := AS.facts_get hF 15 (by simp)
    clear hF
    simp only [h15] at hK ⊢
    clear h15
    go_simp
    exact hK.out _ _ (Below.refl _ _) (rfl) trivial
   refine AS.sc rfl rfl rfl ?_ ?_
   ·intro k_ u w_ hk_ hJ hF K hK
    have h15 : u 15 = .bool true := AS.facts_get hF 15 (by simp)
    clear hF
    simp only [h15] at hK ⊢
    clear h15
    go_simp
    exact hK.out _ _ (Below.refl _ _) (rfl) trivial
   refine AS.sc rfl rfl rfl ?_ ?_
   ·intro k_ u w_ hk_ hJ hF K hK
    have h15 : u 15 = .bool true := AS.facts_get hF 15 (by simp)
    clear hF
    simp only [h15] at hK ⊢
    clear h15
    go_simp
    exact hK.out _ _ (Below.refl _ _) (rfl) trivial
   refine AS.sc rfl rfl rfl ?_ ?_
   ·intro k_ u w_ hk_ hJ hF K hK
    have h15 : u 15 = .bool true := AS.facts_get hF 15 (by simp)
    have h22 : u 22 = undef := AS.facts_get hF 22 (by simp)
    clear hF
    simp only [h15, h22] at hK ⊢
    clear h15 h22
    go_simp
    exact hK.out _ _ (Below.refl _ _) (rfl) trivial
   refine AS.sc rfl rfl rfl ?_ ?_
   ·intro k_ u w_ hk_ hJ hF K hK
    have h23 : u 23 = .bool true := AS.facts_get hF 23 (by simp)
    clear hF
    simp only [h23] at hK ⊢
    clear h23
    go_simp
    exact hK.out _ _ (Below.refl _ _) (rfl) trivial
   exact AS.StepsOk.nil
  ·intro u W9 hJ9 hF
   have h4 : u 4 = .bool true := AS.facts_get hF 4 (by simp [mvF1, AS.temps])
   have hB9 : Below wr.heap.size wr W9 := hJ9
   clear hF hJ9
   simp only [h4]
   clear h4
   have hB8 := hB.trans (hB9.mono hsz)
   clear hB9
   go_wp2_with fail
   go_ret
   exact ⟨rfl, by first | exact hB8 | (rw [HS0.out]; exact hB8)⟩
 rcases Nat.lt_or_ge 60 k with hk6 | hk6
 ·have ek : decide ((60 : Int) < (k : Int)) = true := decide_eq_true (by omega)
  clear h1 h2 hfq hk6
  refine AS.region_facts (mvF2 nm cur A n c B m d jt C k cc s0 q) (HNo wr) [[], [7], [8], [9], [10], [11, 10], [12, 10], [10, 13], [14], [15], [15], [15], [15], [15], [15], [15], [15, 22], [23]] [] [[]] [0, 0, 0, 0, 0, 0, 0, 0, 0, 0, 0, 0, 0, 0, 0, 0, 0, 0] [] (fun u => by simp only [mvF2, AS.temps, List.map_cons, List.map_nil, fillL, List.setIfInBounds_toArray, List.set_cons_zero, List.set_cons_succ]; rfl) (by kernel_rfl) (by kernel_rfl) (HNo.st wr) (dc_drew (Below.refl _ _)) ?_ ?_
  ·refine AS.sc rfl rfl rfl ?_ ?_
   ·intro k_ u w_ hk_ hJ hF K hK
    clear hF
    obtain ⟨c0, c1, c2, c3, c4, lt⟩ := HE.out.up (hJ : Below wr.heap.size wr w_)
    go_simp
    exact hK.out _ _ (Below.refl _ _) (rfl) trivial
   refine AS.sc rfl rfl rfl ?_ ?_
   ·intro k_ u w_ hk_ hJ hF K hK
    have h7 : u 7 = .agg #[.string nm, .string cur, .slice A n c, .slice B m d, .bool jt] := AS.facts_get hF 7 (by simp)
    clear hF
    simp only [h7] at hK ⊢
    clear h7
    go_simp
    refine (HFW.out _).mono ?_
    rintro e w3 ⟨rfl, hb⟩
    exact hK.out _ _ hb (rfl) trivial
   refine AS.sc rfl rfl rfl ?_ ?_
   ·intro k_ u w_ hk_ hJ hF K hK
    have h8 : u 8 = .bool true := AS.facts_get hF 8 (by simp)
    clear hF
    simp only [h8] at hK ⊢
    clear h8
    go_simp
    exact hK.out _ _ (Below.refl _ _) (rfl) trivial
   refine AS.sc rfl rfl rfl ?_ ?_
   ·intro k_ u w_ hk_ hJ hF K hK
    have h9 : u 9 = .bool false := AS.facts_get hF 9 (by simp)
    clear hF
    simp only [h9] at hK ⊢
    clear h9
    go_simp
    exact hK.out _ _ (Below.refl _ _) (rfl) trivial
   refine AS.sc rfl rfl rfl ?_ ?_
   ·intro k_ u w_ hk_ hJ hF K hK
    have h10 : u 10 = .bool false := AS.facts_get hF 10 (by simp)
    clear hF
    simp only [h10] at hK ⊢
    clear h10
    go_simp
    exact hK.out _ _ (Below.refl _ _) (rfl) trivial
   refine AS.sc rfl rfl rfl ?_ ?_
   ·intro k_ u w_ hk_ hJ hF K hK
    have h11 : u 11 = .slice C (k : Nat) cc := AS.facts_get hF 11 (by simp)
    have h10 : u 10 = .bool false := AS.facts_get hF 10 (by simp)
    clear hF
    simp only [h11, h10] at hK ⊢
    clear h11 h10
    go_simp
    exact hK.out _ _ (Below.refl _ _) (rfl) trivial
   refine AS.sc rfl rfl rfl ?_ ?_
   ·intro k_ u w_ hk_ hJ hF K hK
    have h12 : u 12 = .int .i64 (k : Int) := AS.facts_get hF 12 (by simp)
    have h10 : u 10 = .bool false := AS.facts_get hF 10 (by simp)
    clear hF
    simp only [h12, h10] at hK ⊢
    clear h12 h10
    go_simp
    exact hK.out _ _ (Below.refl _ _) (rfl) trivial
   refine AS.sc rfl rfl rfl ?_ ?_
   ·intro k_ u w_ hk_ hJ hF K hK
    have h10 : u 10 = .bool false := AS.facts_get hF 10 (by simp)
    have h13 : u 13 = .bool true := AS.facts_get hF 13 (by simp)
    clear hF
    simp only [h10, h13] at hK ⊢
    clear h10 h13
    go_simp
    exact hK.out _ _ (Below.refl _ _) (rfl) trivial
   refine AS.sc rfl rfl rfl ?_ ?_
   ·intro k_ u w_ hk_ hJ hF K hK
    have h14 : u 14 = .bool true := AS.facts_get hF 14 (by simp)
    clear hF
    simp only [h14] at hK ⊢
    clear h14
    go_simp
    exact hK.out _ _ (Below.refl _ _) (rfl) trivial
   refine AS.sc rfl rfl rfl ?_ ?_
   ·intro k_ u w_ hk_ hJ hF K hK
    have h15 : u 15 = .bool true := AS.facts_get hF 15 (by simp)
    clear hF
    simp only [h15] at hK ⊢
    clear h15
    go_simp
    exact hK.out _ _ (Below.refl _ _) (rfl) trivial
   refine AS.sc rfl rfl rfl ?_ ?_
   ·intro k_ u w_ hk_ hJ hF K hK
    have h15 : u 15 = .bool true := AS.facts_get hF 15 (by simp)
    clear hF
    simp only [h15] at hK ⊢
    clear h15
    go_simp
    exact hK.out _ _ (Below.refl _ _) (rfl) trivial
   refine AS.sc rfl rfl rfl ?_ ?_
   ·intro k_ u w_ hk_ hJ hF K hK
    have h15 : u 15 = .bool true := AS.facts_get hF 15 (by simp)
    clear hF
    simp only [h15] at hK ⊢
    clear h15
    go_simp
    exact hK.out _ _ (Below.refl _ _) (rfl) trivial
   refine AS.sc rfl rfl rfl ?_ ?_
   ·intro k_ u w_ hk_ hJ hF K hK
    have h15 : u 15 = .bool true := AS.facts_get hF 15 (by simp)
    clear hF
    simp only [h15] at hK ⊢
    clear h15
    go_simp
    exact hK.out _ _ (Below.refl _ _) (rfl) trivial
   refine AS.sc rfl rfl rfl ?_ ?_
   ·intro k_ u w_ hk_ hJ hF K hK
    have h15 : u 15 = .bool true := AS.facts_get hF 15 (by simp)
    clear hF
    simp only [h15] at hK ⊢
    clear h15
    go_simp
    exact hK.out _ _ (Below.refl _ _) (rfl) trivial
   refine AS.sc rfl rfl rfl ?_ ?_
   ·intro k_ u w_ hk_ hJ hF K hK
    have h15 : u 15 = .bool true := AS.facts_get hF 15 (by simp)
    clear hF
    simp only [h15] at hK ⊢
    clear h15
    go_simp
    exact hK.out _ _ (Below.refl _ _) (rfl) trivial
   refine AS.sc rfl rfl rfl ?_ ?_
   ·intro k_ u w_ hk_ hJ hF K hK
    have h15 : u 15 = .bool true := AS.facts_get hF 15 (by simp)
    clear hF
    simp only [h15] at hK ⊢
    clear h15
    go_simp
    exact hK.out _ _ (Below.refl _ _) (rfl) trivial
   refine AS.sc rfl rfl rfl ?_ ?_
   ·intro k_ u w_ hk_ hJ hF K hK
    have h15 : u 15 = .bool true := AS.facts_get hF 15 (by simp)
    have h22 : u 22 = undef := AS.facts_get hF 22 (by simp)
    clear hF
    simp only [h15, h22] at hK ⊢
    clear h15 h22
    go_simp
    exact hK.out _ _ (Below.refl _ _) (rfl) trivial
   refine AS.sc rfl rfl rfl ?_ ?_
   ·intro k_ u w_ hk_ hJ hF K hK
    have h23 : u 23 = .bool true := AS.facts_get hF 23 (by simp)
    clear hF
    simp only [h23] at hK ⊢
    clear h23
    go_simp
    exact hK.out _ _ (Below.refl _ _) (rfl) trivial
   exact AS.StepsOk.nil
  ·intro u W9 hJ9 hF
   have h4 : u 4 = .bool true := AS.facts_get hF 4 (by simp [mvF2, AS.temps])
   have hB9 : Below wr.heap.size wr W9 := hJ9
   clear hF hJ9
   simp only [h4]
   clear h4
   have hB8 := hB.trans (hB9.mono hsz)
   clear hB9
   go_wp2_with fail
   go_ret
   exact ⟨rfl, by first | exact hB8 | (rw [HS0.out]; exact hB8)⟩
 ·have ek : decide ((60 : Int) < (k : Int)) = false := decide_eq_false (by omega)
  obtain ⟨h5, h6⟩ := hfq rfl
  have H1 := Lib.hid (h1 h5 h6 hk6)
  have H2 := Lib.hid (h2 h5 h6 hk6)
  clear h1 h2 hfq hk6 h5 h6
  refine AS.region_facts (mvF3 nm cur A n c B m d jt C k cc s0 q) (HNo wr) [[], [7], [8], [9], [10], [11, 10], [12, 10], [10, 13], [14], [15], [15], [16, 17, 15], [15], [15], [19, 20, 15], [18, 21, 15], [15, 22], [23]] [] [[]] [0, 0, 0, 0, 0, 0, 0, 0, 0, 0, 0, 0, 0, 0, 0, 0, 0, 0] [] (fun u => by simp only [mvF3, AS.temps, List.map_cons, List.map_nil, fillL, List.setIfInBounds_toArray, List.set_cons_zero, List.set_cons_succ]; rfl) (by kernel_rfl) (by kernel_rfl) (HNo.st wr) (dc_drew (Below.refl _ _)) ?_ ?_
  ·refine AS.sc rfl rfl rfl ?_ ?_
   ·intro k_ u w_ hk_ hJ hF K hK
    clear hF
    obtain ⟨c0, c1, c2, c3, c4, lt⟩ := HE.out.up (hJ : Below wr.heap.size wr w_)
    go_simp
    exact hK.out _ _ (Below.refl _ _) (rfl) trivial
   refine AS.sc rfl rfl rfl ?_ ?_
   ·intro k_ u w_ hk_ hJ hF K hK
    have h7 : u 7 = .agg #[.string nm, .string cur, .slice A n c, .slice B m d, .bool jt] := AS.facts_get hF 7 (by simp)
    clear hF
    simp only [h7] at hK ⊢
    clear h7
    go_simp
    refine (HFW.out _).mono ?_
    rintro e w3 ⟨rfl, hb⟩
    exact hK.out _ _ hb (rfl) trivial
   refine AS.sc rfl rfl rfl ?_ ?_
   ·intro k_ u w_ hk_ hJ hF K hK
    have h8 : u 8 = .bool true := AS.facts_get hF 8 (by simp)
    clear hF
    simp only [h8] at hK ⊢
    clear h8
    go_simp
    exact hK.out _ _ (Below.refl _ _) (rfl) trivial
   refine AS.sc rfl rfl rfl ?_ ?_
   ·intro k_ u w_ hk_ hJ hF K hK
    have h9 : u 9 = .bool false := AS.facts_get hF 9 (by simp)
    clear hF
    simp only [h9] at hK ⊢
    clear h9
    go_simp
    exact hK.out _ _ (Below.refl _ _) (rfl) trivial
   refine AS.sc rfl rfl rfl ?_ ?_
   ·intro k_ u w_ hk_ hJ hF K hK
    have h10 : u 10 = .bool false := AS.facts_get hF 10 (by simp)
    clear hF
    simp only [h10] at hK ⊢
    clear h10
    go_simp
    exact hK.out _ _ (Below.refl _ _) (rfl) trivial
   refine AS.sc rfl rfl rfl ?_ ?_
   ·intro k_ u w_ hk_ hJ hF K hK
    have h11 : u 11 = .slice C (k : Nat) cc := AS.facts_get hF 11 (by simp)
    have h10 : u 10 = .bool false := AS.facts_get hF 10 (by simp)
    clear hF
    simp only [h11, h10] at hK ⊢
    clear h11 h10
    go_simp
    exact hK.out _ _ (Below.refl _ _) (rfl) trivial
   refine AS.sc rfl rfl rfl ?_ ?_
   ·intro k_ u w_ hk_ hJ hF K hK
    have h12 : u 12 = .int .i64 (k : Int) := AS.facts_get hF 12 (by simp)
    have h10 : u 10 = .bool false := AS.facts_get hF 10 (by simp)
    clear hF
    simp only [h12, h10] at hK ⊢
    clear h12 h10
    go_simp
    exact hK.out _ _ (Below.refl _ _) (rfl) trivial
   refine AS.sc rfl rfl rfl ?_ ?_
   ·intro k_ u w_ hk_ hJ hF K hK
    have h10 : u 10 = .bool false := AS.facts_get hF 10 (by simp)
    have h13 : u 13 = .bool false := AS.facts_get hF 13 (by simp)
    clear hF
    simp only [h10, h13] at hK ⊢
    clear h10 h13
    go_simp
    exact hK.out _ _ (Below.refl _ _) (rfl) trivial
   refine AS.sc rfl rfl rfl ?_ ?_
   ·intro k_ u w_ hk_ hJ hF K hK
    have h14 : u 14 = .bool false := AS.facts_get hF 14 (by simp)
    clear hF
    simp only [h14] at hK ⊢
    clear h14
    go_simp
    exact hK.out _ _ (Below.refl _ _) (rfl) trivial
   refine AS.sc rfl rfl rfl ?_ ?_
   ·intro k_ u w_ hk_ hJ hF K hK
    have h15 : u 15 = .bool false := AS.facts_get hF 15 (by simp)
    clear hF
    simp only [h15] at hK ⊢
    clear h15
    obtain ⟨c0, c1, c2, c3, c4, lt⟩ := HE.out.up (hJ : Below wr.heap.size wr w_)
    go_simp
    exact hK.out _ _ (Below.refl _ _) (rfl) trivial
   refine AS.sc rfl rfl rfl ?_ ?_
   ·intro k_ u w_ hk_ hJ hF K hK
    have h15 : u 15 = .bool false := AS.facts_get hF 15 (by simp)
    clear hF
    simp only [h15] at hK ⊢
    clear h15
    go_simp
    exact hK.out _ _ (Below.refl _ _) (rfl) trivial
   refine AS.sc rfl rfl rfl ?_ ?_
   ·intro k_ u w_ hk_ hJ hF K hK
    have h16 : u 16 = .agg #[.string nm, .string cur, .slice A n c, .slice B m d, .bool jt] := AS.facts_get hF 16 (by simp)
    have h17 : u 17 = .slice C (k : Nat) cc := AS.facts_get hF 17 (by simp)
    have h15 : u 15 = .bool false := AS.facts_get hF 15 (by simp)
    clear hF
    simp only [h16, h17, h15] at hK ⊢
    clear h16 h17 h15
    have hz9 := HZ.out.up (hJ : Below wr.heap.size wr w_)
    have hy9 := HY.out.up (hJ : Below wr.heap.size wr w_)
    have hx9 := HX.out.up (hJ : Below wr.heap.size wr w_)
    go_simp
    refine (H1.out _ hz9 hy9 hx9).mono ?_
    rintro e w3 ⟨rfl, hb⟩
    exact hK.out _ _ hb (rfl) trivial
   refine AS.sc rfl rfl rfl ?_ ?_
   ·intro k_ u w_ hk_ hJ hF K hK
    have h15 : u 15 = .bool false := AS.facts_get hF 15 (by simp)
    clear hF
    simp only [h15] at hK ⊢
    clear h15
    obtain ⟨c0, c1, c2, c3, c4, lt⟩ := HE.out.up (hJ : Below wr.heap.size wr w_)
    go_simp
    exact hK.out _ _ (Below.refl _ _) (rfl) trivial
   refine AS.sc rfl rfl rfl ?_ ?_
   ·intro k_ u w_ hk_ hJ hF K hK
    have h15 : u 15 = .bool false := AS.facts_get hF 15 (by simp)
    clear hF
    simp only [h15] at hK ⊢
    clear h15
    go_simp
    exact hK.out _ _ (Below.refl _ _) (rfl) trivial
   refine AS.sc rfl rfl rfl ?_ ?_
   ·intro k_ u w_ hk_ hJ hF K hK
    have h19 : u 19 = .agg #[.string nm, .string cur, .slice A n c, .slice B m d, .bool jt] := AS.facts_get hF 19 (by simp)
    have h20 : u 20 = .slice C (k : Nat) cc := AS.facts_get hF 20 (by simp)
    have h15 : u 15 = .bool false := AS.facts_get hF 15 (by simp)
    clear hF
    simp only [h19, h20, h15] at hK ⊢
    clear h19 h20 h15
    have hz9 := HZ.out.up (hJ : Below wr.heap.size wr w_)
    have hy9 := HY.out.up (hJ : Below wr.heap.size wr w_)
    have hx9 := HX.out.up (hJ : Below wr.heap.size wr w_)
    go_simp
    refine (H2.out _ hz9 hy9 hx9).mono ?_
    rintro e w3 ⟨rfl, hb⟩
    exact hK.out _ _ hb (rfl) trivial
   refine AS.sc rfl rfl rfl ?_ ?_
   ·intro k_ u w_ hk_ hJ hF K hK
    have h18 : u 18 = .bool q := AS.facts_get hF 18 (by simp)
    have h21 : u 21 = .bool q := AS.facts_get hF 21 (by simp)
    have h15 : u 15 = .bool false := AS.facts_get hF 15 (by simp)
    clear hF
    simp only [h18, h21, h15] at hK ⊢
    clear h18 h21 h15
    go_simp
    exact hK.out _ _ (Below.refl _ _) (rfl) trivial
   refine AS.sc rfl rfl rfl ?_ ?_
   ·intro k_ u w_ hk_ hJ hF K hK
    have h15 : u 15 = .bool false := AS.facts_get hF 15 (by simp)
    have h22 : u 22 = .bool true := AS.facts_get hF 22 (by simp)
    clear hF
    simp only [h15, h22] at hK ⊢
    clear h15 h22
    go_simp
    exact hK.out _ _ (Below.refl _ _) (rfl) trivial
   refine AS.sc rfl rfl rfl ?_ ?_
   ·intro k_ u w_ hk_ hJ hF K hK
    have h23 : u 23 = .bool true := AS.facts_get hF 23 (by simp)
    clear hF
    simp only [h23] at hK ⊢
    clear h23
    go_simp
    exact hK.out _ _ (Below.refl _ _) (rfl) trivial
   exact AS.StepsOk.nil
  ·intro u W9 hJ9 hF
   have h4 : u 4 = .bool true := AS.facts_get hF 4 (by simp [mvF3, AS.temps])
   have hB9 : Below wr.heap.size wr W9 := hJ9
   clear hF hJ9
   simp only [h4]
   clear h4
   have hB8 := hB.trans (hB9.mono hsz)
   clear hB9
   go_wp2_with fail
   go_ret
   exact ⟨rfl, by first | exact hB8 | (rw [HS0.out]; exact hB8)⟩
end Go.Proofs.Ytmahnpbjjadipaa
