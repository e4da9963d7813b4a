/- Contracts of the functions that the statements reach, part 8: what was proved of each, callees first. -/
import Derived.Test.YtaeccljkmijpaaaGreatLS7
namespace Go.Proofs.YtaeccljkmijpaaaGreat
open Go.RowKit Go.Maps
def AdLJ (g : Grp) (w : World) (s0 : Nat) (S : Value) (e p : Int) (M : Nat → LkL) (k : Nat) (l : List Value) (W : World) : Prop := RmJ g w s0 S 4 M k l W ∧ Wh 124 W (s0 + 2) [.int .i64 e, .int .i64 p]
def amM (KL : LkL) (k : Nat) (e p : Int) : Nat → LkL
 | 0 => []
 | 1 => []
 | 2 => KL.take k
 | 3 => KL.take k ++ [(e, p)]
 | _ => KL.take k ++ [(e, p)] ++ KL.drop k
def xrP (e p : Int) (v : Value) (W : World) : Prop := ∃ b, v = .slice (some ⟨b, 0, none⟩) 1 1 ∧ Wh 124 W b [.int .i64 e, .int .i64 p]
def xrF (e p : Int) : AK.Fact TwoR := ⟨xrP e p, fun _ _ _ hb ⟨b, h1, h2⟩ => ⟨b, h1, h2.same (hb.2 _ _ h2.blk rfl)⟩⟩
theorem addE_lt {n k : Int} {K : LkL} {x : Int × Int} {r : Int} (h : addE n k K x = r) (hr : r ≠ 0) : addL n k K x = K := by
 unfold addL
 rw [h, if_neg hr]
def adLF (s0 n c k : Nat) (A : Option Addr) (e p : Int) (KL : LkL) : List (Nat × AK.Fact (TwoR)) := [(81, AK.Fact.triv), (82, AK.Fact.is (.pointer (some ⟨s0, 21, none⟩))), (83, AK.Fact.is (.slice A n c)), (84, AK.Fact.is (.int .i64 (k : Int))), (85, prF KL (KL.take k) A k), (86, AK.Fact.triv), (87, AK.Fact.is (.agg #[.int .i64 e, .int .i64 p])), (88, xrF e p), (89, AK.Fact.triv), (90, AK.Fact.is (.pointer (some ⟨s0, 21, none⟩))), (91, AK.Fact.is (.slice A n c)), (92, AK.Fact.is (.int .i64 (k : Int))), (93, prF KL (KL.drop k) A (n - k)), (94, AK.Fact.triv), (95, AK.Fact.is (.pointer (some ⟨s0, 21, none⟩)))]
theorem rj_put2 {g : Grp} {w W W' : World} {s0 : Nat} {u : Value} (h : RJ g w s0 u W) (ho : Only (fun i => i = s0 + 2) W W') (hz : W'.heap.size = W.heap.size) : RJ g w s0 u W' :=
 ⟨h.box.only ho (by omega), h.out.only ho (by omega), h.low.trans (ho.below (fun i hi => (by have h9 : i = s0 + 2 := hi; omega)) (by have := h.sz; omega)), by rw [hz]; exact h.sz⟩
set_option maxRecDepth 100000 in
set_option maxHeartbeats 25600000 in
theorem radd13_any (g : Grp) (A : Option Addr) (c : Nat) (KL : LkL) (e p : Int) (w : World) (hz : RowAt lyP w A KL) (hl : KL.length ≤ 1000) (hcc : KL.length ≤ c) (hg : GoodL (g.m : Int) g.cp KL) : Calls Tryz.prog 32 #[rlV g (.slice A KL.length c), .int .i64 e, .int .i64 p] w fun r w' => RlQ g A w.heap.size (addL (g.m : Int) g.cp KL (e, p)) (addE (g.m : Int) g.cp KL (e, p)) r w' ∧ Below w.heap.size w w' := by
 obtain ⟨n, hn⟩ : ∃ n, KL.length = n := ⟨_, rfl⟩
 obtain ⟨s0, hs0⟩ : ∃ s0, w.heap.size = s0 := ⟨_, rfl⟩
 have HCC : Hid (n ≤ c) := Lib.hid (by rw [← hn]; exact hcc)
 rw [hn] at hl ⊢
 obtain ⟨ls, hls⟩ : ∃ ls, (rlC g (.slice A n c)).toArray = ls := ⟨_, rfl⟩
 rw [show rlV g (.slice A n c) = .agg ls by rw [← hls]]
 obtain ⟨w2, hw2⟩ : ∃ w2, ((w.alloc (.cells ls 69)).alloc (.cells #[.string ⟨#[]⟩, .int .i64 0, .int .i64 0, .int .i64 0, .slice none 0 0, .int .i64 0, .int .i64 0, .int .i64 0, .int .i64 0, .int .i64 0, .int .i64 0, .int .i64 0, .int .i64 0, .int .i64 0, .int .i64 0, .int .i64 0, .int .i64 0, .int .i64 0, .int .i64 0, .int .i64 0, .slice none 0 0, .slice none 0 0] 69)).alloc (.cells #[.int .i64 0, .int .i64 0] 124) = w2 := ⟨_, rfl⟩
 have HXB : Wh 69 w2 s0 (rlC g (.slice A n c)) := by rw [← hw2, ← hls, ← hs0]; exact ((Wh.new w _ _).up (below_alloc_new _)).up (below_alloc_new _)
 have HYB : Wh 69 w2 (s0 + 1) (rlC gr0 (.slice none 0 0)) := by
  rw [← hw2, ← hs0]
  have h9 := Wh.new (w.alloc (.cells ls 69)) 69 (rlC gr0 (.slice none 0 0))
  rw [World.size_alloc] at h9
  exact h9.up (below_alloc_new _)
 have HXX : Hid (Wh 124 w2 (s0 + 2) [.int .i64 0, .int .i64 0]) := Lib.hid (by
  rw [← hw2, ← hs0]
  have h9 := Wh.new ((w.alloc (.cells ls 69)).alloc (.cells #[.string ⟨#[]⟩, .int .i64 0, .int .i64 0, .int .i64 0, .slice none 0 0, .int .i64 0, .int .i64 0, .int .i64 0, .int .i64 0, .int .i64 0, .int .i64 0, .int .i64 0, .int .i64 0, .int .i64 0, .int .i64 0, .int .i64 0, .int .i64 0, .int .i64 0, .int .i64 0, .int .i64 0, .slice none 0 0, .slice none 0 0] 69)) 124 [.int .i64 0, .int .i64 0]
  rw [World.size_alloc, World.size_alloc] at h9
  exact h9)
 have HB2 : Hid (Below w.heap.size w w2) := Lib.hid (by rw [← hw2]; exact below_new (below_new (below_alloc_new _) _) _)
 have HJ2 : Hid (RJ g w s0 (.slice A n c) w2) := Lib.hid ⟨HXB, HYB, hs0 ▸ HB2.out, by rw [← hw2, ← hs0]; simp⟩
 have HN := Lib.hid hn
 have HZ := Lib.hid hz
 have HS0 := Lib.hid hs0
 have HLN : Hid (n ≤ 1000) := Lib.hid hl
 have HGD := Lib.hid hg
 have HLD : Hid (∀ W u, RJ g w s0 u W → (Instr.loadAt 69 (.pointer (some ⟨s0, 0, none⟩))).run Tryz.prog W = .ok (rlV g u) W) := Lib.hid (fun W u h => h.box.rg.load 0 69 (rlC g u) rfl _ Tryz.underlying69 rfl (by kernel_rfl))
 have HLX : Hid (∀ W, Wh 124 W (s0 + 2) (lkCelP (e, p)) → (Instr.loadAt 124 (.pointer (some ⟨s0 + 2, 0, none⟩))).run Tryz.prog W = .ok (.agg #[.int .i64 e, .int .i64 p]) W) := Lib.hid (fun W h => h.rg.load 0 124 (lkCelP (e, p)) rfl _ Tryz.underlying124 rfl (by kernel_rfl))
 have HIX := Lib.hid (fun W (h : RowAt lyP W A KL) => rkidx_any A c KL (e, p) W h (by rw [hn]; exact hl))
 rw [hn] at HIX
 obtain ⟨hm1, hm2⟩ := getL_mem (K := KL) (x := (e, p))
 generalize getL KL (e, p) = G at *
 have HM0 : True := trivial
 clear hn hz hls HXB HYB hm2
 by_cases h1 : 0 ≤ e ∧ e < (g.m : Int)
 ·have hd1 : decide (e < 0) = false := decide_eq_false (by omega)
  have hd3 : decide (e ≥ (g.m : Int)) = false := decide_eq_false (by omega)
  have hd4 : decide ((g.m : Int) ≤ e) = false := decide_eq_false (by omega)
  by_cases h2 : 0 ≤ p ∧ p < g.cp
  ·have hf1 : decide (p < 0) = false := decide_eq_false (by omega)
   have hf3 : decide (p ≥ g.cp) = false := decide_eq_false (by omega)
   have hf4 : decide (g.cp ≤ p) = false := decide_eq_false (by omega)
   by_cases hx : (e, p) ∈ KL
   ·have hG : decide (G ≥ 0) = true := decide_eq_true (hm1.2 hx)
    have hG2 : decide (0 ≤ G) = true := hG
    have HE0 : Hid (addL (g.m : Int) g.cp KL (e, p) = KL ∧ addE (g.m : Int) g.cp KL (e, p) = 9) := Lib.hid ⟨addE_lt (by unfold addE; rw [if_pos h1, if_pos h2, if_pos hx]) (by omega), by unfold addE; rw [if_pos h1, if_pos h2, if_pos hx]⟩
    clear h1 h2 hx hm1
    have HM1 : True := trivial
    have HM2 : True := trivial
    go_enter Tryz.func32, Tryz.ntmps32
    go_wp2_with (first
     | (clear HM0; refine wpList_store_wh rfl 124 _ _ rfl (s0 + 2) rfl 124 [.int .i64 0, .int .i64 0] (lkCelP (e, p)) rfl HXX.out rfl (by kernel_rfl) (by kernel_rfl) ?_; intro w6 hr6 ho6 hz6; have HX6 := Lib.hid hr6.out; have HJ6 := Lib.hid (rj_put2 HJ2.out ho6.out hz6); have hj6 := HJ6.out.box; have c3_ := hj6.at 3 _ rfl; have c20_ := hj6.at 20 _ rfl; have c21_ := hj6.at 21 _ rfl; clear hr6 ho6 hz6 hj6)
     | (go_at_call 72; refine (HIX.out _ (HZ.out.up (HJ6.out.low.mono (Nat.le_of_eq HS0.out)))).mono ?_; rintro r w3 ⟨rfl, hb⟩; have HJ7 := Lib.hid (HJ6.out.up hb); clear hb HJ6; have HJ6 := HJ7; clear HJ7)
     | (clear HM2; refine wpList_load_is rfl 124 _ rfl (.pointer (some ⟨s0 + 2, 0, none⟩)) rfl (.agg #[.int .i64 e, .int .i64 p]) (HLX.out _ HX6.out) ?_)
     | (clear HM1; refine wpList_load_is rfl 69 _ rfl (.pointer (some ⟨s0, 0, none⟩)) rfl (rlV g (.slice A n c)) (HLD.out _ _ HJ6.out) ?_)
     | (refine wpList_store_wh rfl 69 _ _ rfl (s0 + 1) rfl 69 (rlC gr0 (.slice none 0 0)) (rlC g (.slice A n c)) rfl HJ6.out.out rfl (by kernel_rfl) (by kernel_rfl) ?_; intro W8 hr8 ho8 hz8))
    refine bodyPost_ret (v := .tuple #[rlV g (.slice A n c), .int .i64 9]) (results_cell2 Tryz.results32 _ _ (s0 + 1) (rlC g (.slice A n c)) _ _ rfl rfl hr8.out.range Tryz.underlying69 rfl (by kernel_rfl)) rfl ?_
    rw [HE0.out.1, HE0.out.2]
    have h9 := rj_low HJ6.out ho8.out
    rw [← HS0.out] at h9
    exact ⟨⟨A, c, by rw [HN.out], by rw [HN.out]; exact HCC.out, HZ.out.up h9, .inl rfl⟩, by first | exact h9 | (rw [← HS0.out]; exact h9)⟩
   ·have hG : decide (G ≥ 0) = false := decide_eq_false (fun h => hx (hm1.1 h))
    have hG2 : decide (0 ≤ G) = false := hG
    have HE0 : Hid (addE (g.m : Int) g.cp KL (e, p) = 0) := Lib.hid (by unfold addE; rw [if_pos h1, if_pos h2, if_neg hx])
    have HNM : Hid ((e, p) ∉ KL) := Lib.hid hx
    clear h1 h2 hx hm1
    have HM2 : True := trivial
    go_enter Tryz.func32, Tryz.ntmps32
    go_wp2_with (first
     | (clear HM0; refine wpList_store_wh rfl 124 _ _ rfl (s0 + 2) rfl 124 [.int .i64 0, .int .i64 0] (lkCelP (e, p)) rfl HXX.out rfl (by kernel_rfl) (by kernel_rfl) ?_; intro w6 hr6 ho6 hz6; have HX6 := Lib.hid hr6.out; have HJ6 := Lib.hid (rj_put2 HJ2.out ho6.out hz6); have hj6 := HJ6.out.box; have c3_ := hj6.at 3 _ rfl; have c20_ := hj6.at 20 _ rfl; have c21_ := hj6.at 21 _ rfl; clear hr6 ho6 hz6 hj6)
     | (go_at_call 72; refine (HIX.out _ (HZ.out.up (HJ6.out.low.mono (Nat.le_of_eq HS0.out)))).mono ?_; rintro r w7 ⟨rfl, hb⟩; have HJ7 := Lib.hid (HJ6.out.up hb); have HX7 := Lib.hid (HX6.out.up hb); have c9_ := HJ7.out.box.at 21 _ rfl; clear hb)
     | (clear HM2; refine wpList_load_is rfl 124 _ rfl (.pointer (some ⟨s0 + 2, 0, none⟩)) rfl (.agg #[.int .i64 e, .int .i64 p]) (HLX.out _ HX6.out) ?_))
    go_loopg [9] n (fun kx s9 wr => ∃ (k : Nat), s9 = .int .i64 (k : Int) ∧ k ≤ n ∧ n - k ≤ kx ∧ Hid (∀ i, i < k → ∀ a, KL[i]? = some a → ltK a (e, p)) ∧ wr = w7)
    case atStart => exact ⟨0, rfl, by omega, by omega, Lib.hid (fun i h => by omega), rfl⟩
    case round =>
     obtain ⟨k, rfl, hk, hkx, HLO, hW⟩ := hrel
     have hW2 := hW.symm
     subst hW2
     have c21 := HJ7.out.box.at 21 _ rfl
     by_cases hlt : k < n
     ·have hltz : (k : Int) < (n : Int) := by omega
      obtain ⟨q, hq⟩ : ∃ q, KL[k]? = some q := ⟨_, List.getElem?_eq_getElem (by rw [HN.out]; exact hlt)⟩
      obtain ⟨q1, q2⟩ := q
      obtain ⟨bb, off, hA, hbl, hrg⟩ := (HZ.out.up (HJ7.out.low.mono (Nat.le_of_eq HS0.out))).at hq
      subst hA
      have p0 : w7.cell? ⟨bb, off + k * 2, none⟩ = some (.int .i64 q1) := hrg 0 _ rfl
      have p1 : w7.cell? ⟨bb, off + k * 2 + 1, none⟩ = some (.int .i64 q2) := hrg 1 _ rfl
      have HLU : Hid (ltK (q1, q2) (e, p) → ∀ i, i < k + 1 → ∀ a, KL[i]? = some a → ltK a (e, p)) := Lib.hid (fun h i hi a ha => by
       rcases Nat.lt_or_ge i k with h1 | h1
       ·exact HLO.out i h1 a ha
       ·obtain rfl : i = k := by omega
        rw [hq] at ha
        injection ha with ha
        rw [← ha]; exact h)
      have HGU : Hid (¬ ltK (q1, q2) (e, p) → ∀ a, KL[k]? = some a → ¬ ltK a (e, p)) := Lib.hid (fun h a ha => by
       rw [hq] at ha
       injection ha with ha
       rw [← ha]; exact h)
      clear hq hrg hbl
      by_cases g1 : q1 < e
      ·have he1 : decide (q1 < e) = true := decide_eq_true g1
       have HL2 := Lib.hid (HLU.out (Or.inl g1))
       clear HLU HGU g1
       go_wp2_with fail
       go_roundg (n - (k + 1))
       case measure => omega
       case rel => exact ⟨k + 1, by go_num, by omega, by omega, HL2, rfl⟩
      ·have he1 : decide (q1 < e) = false := decide_eq_false g1
       by_cases g2 : q1 = e
       ·have he2 : (q1 == e) = true := by simp [g2]
        by_cases g3 : q2 < p
        ·have he3 : decide (q2 < p) = true := decide_eq_true g3
         have HL2 := Lib.hid (HLU.out (Or.inr ⟨g2, g3⟩))
         clear HLU HGU g1 g2 g3
         go_wp2_with fail
         go_roundg (n - (k + 1))
         case measure => omega
         case rel => exact ⟨k + 1, by go_num, by omega, by omega, HL2, rfl⟩
        ·have he3 : decide (q2 < p) = false := decide_eq_false g3
         have HGE := Lib.hid (HGU.out (fun h => h.elim (fun h => g1 h) (fun h => g3 h.2)))
         clear HLU HGU g1 g2 g3
         have HLT : Hid (k ≤ n) := Lib.hid (by omega)
         have HTL : Hid ((KL.take k).length = k) := Lib.hid (by rw [List.length_take]; have := HN.out; omega)
         have HDL : Hid ((KL.drop k).length = n - k) := Lib.hid (by rw [List.length_drop]; have := HN.out; omega)
         have HML : Hid (∀ i, (amM KL k e p i).length ≤ n + 1) := Lib.hid (fun i => by
          have h1 := HTL.out
          have h2 := HDL.out
          have h3 := HLT.out
          unfold amM
          split <;> simp only [List.length_append, List.length_singleton, List.length_nil, h1, h2] <;> omega)
         have HIN : Hid (amM KL k e p 5 = addL (g.m : Int) g.cp KL (e, p) ∧ addE (g.m : Int) g.cp KL (e, p) = 0) := Lib.hid (by
          refine ⟨?_, HE0.out⟩
          unfold addL
          rw [if_pos HE0.out, ← ins_at HGD.out.asc HNM.out k HLO.out HGE.out]
          show KL.take k ++ [(e, p)] ++ KL.drop k = _
          simp)
         obtain ⟨i0, hi, hz1, hz2, hz3⟩ := info_parts infoRk
         have HJ0 : Hid (AdLJ g w s0 (.slice (some ⟨bb, off, none⟩) n c) e p (amM KL k e p) 0 [] w7.drew) := Lib.hid ⟨⟨fun _ => HJ7.out.up (dc_drew (Below.refl _ _)), fun v hv => by cases hv⟩, HX7.out.up (dc_drew (Below.refl _ _))⟩
         go_upto_region 11 with fail
         refine AK.region_facts (Rp := Below0) (Kp := TwoR) (adLF s0 n c k (some ⟨bb, off, none⟩) e p KL) (AdLJ g w s0 (.slice (some ⟨bb, off, none⟩) n c) e p (amM KL k e p)) [[], [], [82], [], [83, 84], [81, 85], [], [87], [86, 88], [], [90], [], [91, 92], [89, 93], [], [95, 94]] [0, 5, 8, 13, 15] [[], [81], [86], [89], [94], [94]] [5, 5, 1, 5, 5, 5, 2, 5, 5, 5, 3, 5, 5, 5, 5, 5] [0, 0, 0, 0, 0, 0, 0, 0, 0, 0, 0, 0, 0, 0, 0, 0] [] (fun u => by simp only [adLF, AK.temps, List.map_cons, List.map_nil, fillL, List.setIfInBounds_toArray, List.set_cons_zero, List.set_cons_succ]; rfl) (by kernel_rfl) (by kernel_rfl) (fun _ _ h => h.1) (fun _ _ h => TwoK.of h) (fun _ _ _ _ hb h => ⟨h.1.st hb, h.2.up hb⟩) (HJ0.out) ?_ ?_
         ·refine AK.ss rfl rfl ?_ ?_
          ·intro u w_ hJ hA_ hF K hK
           clear hF
           go_simp
           exact hK.out _ _ ⟨hJ.1.new rfl (by omega), hJ.2.up (below_alloc_new _)⟩ (TwoK.of (below_alloc_new _)) trivial
          refine AK.sc (lim := 5) (lo := 0) rfl rfl rfl rfl ?_ ?_
          ·intro k_ u w_ hk_ hl_ hJ hF K hK
           clear hF
           go_simp
           exact hK.out _ _ (Below.refl _ _) (rfl) trivial
          refine AK.sc (lim := 1) (lo := 0) rfl rfl rfl rfl ?_ ?_
          ·intro k_ u w_ hk_ hl_ hJ hF K hK
           have h82 : u 82 = .pointer (some ⟨s0, 21, none⟩) := AK.facts_get hF 82 (by simp)
           clear hF
           simp only [h82] at hK ⊢
           clear h82
           have c_ := (hJ.1.1 (by omega)).box.at 21 _ rfl
           go_simp
           exact hK.out _ _ (Below.refl _ _) (rfl) trivial
          refine AK.sc (lim := 5) (lo := 0) rfl rfl rfl rfl ?_ ?_
          ·intro k_ u w_ hk_ hl_ hJ hF K hK
           clear hF
           go_simp
           exact hK.out _ _ (Below.refl _ _) (rfl) trivial
          refine AK.sc (lim := 5) (lo := 0) rfl rfl rfl rfl ?_ ?_
          ·intro k_ u w_ hk_ hl_ hJ hF K hK
           have h83 : u 83 = .slice (some ⟨bb, off, none⟩) n c := AK.facts_get hF 83 (by simp)
           have h84 : u 84 = .int .i64 (k : Int) := AK.facts_get hF 84 (by simp)
           clear hF
           simp only [h83, h84] at hK ⊢
           clear h83 h84
           refine wp_slc_h (R := lyP) 67 _ _ rfl Tryz.underlying67 i0 hi hz2 (some ⟨bb, off, none⟩) n c k KL HN.out rfl rfl HLT.out HCC.out ?_
           intro A2 c2 hr2
           exact hK.out _ _ (Below.refl _ _) ⟨A2, c2, rfl, hr2⟩ trivial
          refine AK.ss rfl rfl ?_ ?_
          ·intro u w_ hJ hA_ hF K hK
           have h85 : prP KL (KL.take k) (some ⟨bb, off, none⟩) k (u 85) := AK.facts_get hF 85 (by simp)
           clear hF
           obtain ⟨A_, c_, e_, hr_⟩ := h85
           have ho_ := (hJ.1.2 _ rfl).1
           simp only [e_] at hK ⊢
           clear e_
           have hz_ := hr_ _ (HZ.out.up ((hJ.1.1 (by omega)).low.mono (Nat.le_of_eq HS0.out)))
           refine wp_app_two (R := lyP) (.tmp 81) (.tmp 85) 67 rfl i0 _ 16 Tryz.underlying67 hi hz1 hz2 hz3 (by omega) rfl rfl ho_.1 ho_.2 A_ _ c_ (KL.take k) (HTL.out) rfl hz_ (by have h7 := HML.out (0 + 1); have := HLN.out; have := HLT.out; omega) (hJ.1.1 (by omega)).sz ?_
           intro v' w' ho' hg' hb' hn'
           exact hK.out _ _ ⟨hJ.1.app (by omega) (by first | exact ho'.out | (have h9 := ho'.out; simpa using h9)) hg'.out hn'.out.1, hJ.2.same (hn'.out.2.2 _ _ hJ.2.blk rfl)⟩ (hn'.out.2) trivial
          refine AK.sc (lim := 2) (lo := 0) rfl rfl rfl rfl ?_ ?_
          ·intro k_ u w_ hk_ hl_ hJ hF K hK
           clear hF
           refine wp_load_is 124 _ rfl (.pointer (some ⟨s0 + 2, 0, none⟩)) rfl (.agg #[.int .i64 e, .int .i64 p]) (hJ.2.rg.load 0 124 (lkCelP (e, p)) rfl _ Tryz.underlying124 rfl (by kernel_rfl)) ?_
           exact hK.out _ _ (Below.refl _ _) rfl trivial
          refine AK.sc (lim := 5) (lo := 0) rfl rfl rfl rfl ?_ ?_
          ·intro k_ u w_ hk_ hl_ hJ hF K hK
           have h87 : u 87 = .agg #[.int .i64 e, .int .i64 p] := AK.facts_get hF 87 (by simp)
           clear hF
           simp only [h87] at hK ⊢
           clear h87
           go_simp
           exact hK.out _ _ (below_alloc_new _) ⟨_, rfl, Wh.new _ 124 (lkCelP (e, p))⟩ trivial
          refine AK.ss rfl rfl ?_ ?_
          ·intro u w_ hJ hA_ hF K hK
           have h88 : xrP e p (u 88) w_ := AK.facts_get hF 88 (by simp)
           clear hF
           obtain ⟨g_, e_, hw_⟩ := h88
           have ho_ := (hJ.1.2 _ rfl).1
           simp only [e_] at hK ⊢
           clear e_
           refine wp_app_two (R := lyP) (.tmp 86) (.tmp 88) 67 rfl i0 _ 16 Tryz.underlying67 hi hz1 hz2 hz3 (by omega) rfl rfl ho_.1 ho_.2 (some ⟨g_, 0, none⟩) 1 1 [(e, p)] rfl rfl (row_one (R := lyP) (x := (e, p)) hw_) (by have h7 := HML.out (0 + 1 + 1); have := HLN.out; omega) (hJ.1.1 (by omega)).sz ?_
           intro v' w' ho' hg' hb' hn'
           exact hK.out _ _ ⟨hJ.1.app (by omega) (by first | exact ho'.out | (have h9 := ho'.out; simpa using h9)) hg'.out hn'.out.1, hJ.2.same (hn'.out.2.2 _ _ hJ.2.blk rfl)⟩ (hn'.out.2) trivial
          refine AK.sc (lim := 5) (lo := 0) rfl rfl rfl rfl ?_ ?_
          ·intro k_ u w_ hk_ hl_ hJ hF K hK
           clear hF
           go_simp
           exact hK.out _ _ (Below.refl _ _) (rfl) trivial
          refine AK.sc (lim := 3) (lo := 0) rfl rfl rfl rfl ?_ ?_
          ·intro k_ u w_ hk_ hl_ hJ hF K hK
           have h90 : u 90 = .pointer (some ⟨s0, 21, none⟩) := AK.facts_get hF 90 (by simp)
           clear hF
           simp only [h90] at hK ⊢
           clear h90
           have c_ := (hJ.1.1 (by omega)).box.at 21 _ rfl
           go_simp
           exact hK.out _ _ (Below.refl _ _) (rfl) trivial
          refine AK.sc (lim := 5) (lo := 0) rfl rfl rfl rfl ?_ ?_
          ·intro k_ u w_ hk_ hl_ hJ hF K hK
           clear hF
           go_simp
           exact hK.out _ _ (Below.refl _ _) (rfl) trivial
          refine AK.sc (lim := 5) (lo := 0) rfl rfl rfl rfl ?_ ?_
          ·intro k_ u w_ hk_ hl_ hJ hF K hK
           have h91 : u 91 = .slice (some ⟨bb, off, none⟩) n c := AK.facts_get hF 91 (by simp)
           have h92 : u 92 = .int .i64 (k : Int) := AK.facts_get hF 92 (by simp)
           clear hF
           simp only [h91, h92] at hK ⊢
           clear h91 h92
           refine wp_slc_l (R := lyP) 67 _ _ rfl Tryz.underlying67 i0 hi hz2 (some ⟨bb, off, none⟩) n c k KL HN.out rfl rfl HLT.out HCC.out ?_
           intro A2 c2 hr2
           exact hK.out _ _ (Below.refl _ _) ⟨A2, c2, rfl, hr2⟩ trivial
          refine AK.ss rfl rfl ?_ ?_
          ·intro u w_ hJ hA_ hF K hK
           have h93 : prP KL (KL.drop k) (some ⟨bb, off, none⟩) (n - k) (u 93) := AK.facts_get hF 93 (by simp)
           clear hF
           obtain ⟨A_, c_, e_, hr_⟩ := h93
           have ho_ := (hJ.1.2 _ rfl).1
           simp only [e_] at hK ⊢
           clear e_
           have hz_ := hr_ _ (HZ.out.up ((hJ.1.1 (by omega)).low.mono (Nat.le_of_eq HS0.out)))
           refine wp_app_two (R := lyP) (.tmp 89) (.tmp 93) 67 rfl i0 _ 16 Tryz.underlying67 hi hz1 hz2 hz3 (by omega) rfl rfl ho_.1 ho_.2 A_ _ c_ (KL.drop k) (HDL.out) rfl hz_ (by have h7 := HML.out (0 + 1 + 1 + 1); have := HLN.out; have := HLT.out; omega) (hJ.1.1 (by omega)).sz ?_
           intro v' w' ho' hg' hb' hn'
           exact hK.out _ _ ⟨hJ.1.app (by omega) (by first | exact ho'.out | (have h9 := ho'.out; simpa using h9)) hg'.out hn'.out.1, hJ.2.same (hn'.out.2.2 _ _ hJ.2.blk rfl)⟩ (hn'.out.2) trivial
          refine AK.sc (lim := 5) (lo := 0) rfl rfl rfl rfl ?_ ?_
          ·intro k_ u w_ hk_ hl_ hJ hF K hK
           clear hF
           go_simp
           exact hK.out _ _ (Below.refl _ _) (rfl) trivial
          refine AK.ss rfl rfl ?_ ?_
          ·intro u w_ hJ hA_ hF K hK
           have h95 : u 95 = .pointer (some ⟨s0, 21, none⟩) := AK.facts_get hF 95 (by simp)
           clear hF
           simp only [h95] at hK ⊢
           clear h95
           have hJ9 : AdLJ g w s0 (.slice (some ⟨bb, off, none⟩) n c) e p (amM KL k e p) 4 [u 94] w_ := hJ
           clear hJ
           obtain ⟨A9, c9, h94, hq9, -⟩ := (hJ9.1.2 _ rfl).1.1.reads
           have hbx := (hJ9.1.1 (by omega)).box
           have c_ := hbx.at 21 _ rfl
           have y_ := hbx.frozen 21
           clear hq9 hbx
           obtain ⟨n9, hn9⟩ : ∃ n9, (amM KL k e p 4).length = n9 := ⟨_, rfl⟩
           rw [hn9] at h94
           simp only [h94] at hK ⊢
           clear hn9
           obtain ⟨k9, t9⟩ := RmJ.put h94 hJ9.1 rfl
           have hx9 := hJ9.2.same (t9.2 _ _ hJ9.2.blk rfl)
           clear hJ9 h94
           go_simp
           exact hK.out undef _ ⟨k9, hx9⟩ t9 trivial
          exact AK.StepsOk.nil
         ·intro u W9 hJ9 hF
          clear hF
          have hj9 : AdLJ g w s0 (.slice (some ⟨bb, off, none⟩) n c) e p (amM KL k e p) 5 [u 94] W9 := hJ9
          have h9 := hj9.1.2 _ rfl
          obtain ⟨A9, c9, e9, hr9, -⟩ := h9.1.1.reads
          rw [HIN.out.1] at e9 hr9
          obtain ⟨n9, hn9⟩ : ∃ n9, (addL (g.m : Int) g.cp KL (e, p)).length = n9 := ⟨_, rfl⟩
          rw [hn9] at e9
          have hj10 := h9.2 (by omega)
          have hc9 := h9.1.1
          rw [HIN.out.1, e9] at hc9
          rw [e9] at hj10
          have HJ9 := Lib.hid hj10
          have HC9 := Lib.hid (own_le hc9)
          have HO9 := Lib.hid hc9
          have HN9 := Lib.hid hn9
          simp only [e9]
          clear h9 hr9 hc9 hJ9 e9 hj9 hj10 hn9
          have HM3 : True := trivial
          go_wp2_with (first
           | (clear HM3; refine wpList_load_is rfl 69 _ rfl (.pointer (some ⟨s0, 0, none⟩)) rfl (rlV g (.slice A9 n9 c9)) (HLD.out _ _ HJ9.out) ?_)
           | (refine wpList_store_wh rfl 69 _ _ rfl (s0 + 1) rfl 69 (rlC gr0 (.slice none 0 0)) (rlC g (.slice A9 n9 c9)) rfl HJ9.out.out rfl (by kernel_rfl) (by kernel_rfl) ?_; intro W8 hr8 ho8 hz8))
          refine bodyPost_ret (v := .tuple #[rlV g (.slice A9 n9 c9), .int .i64 0]) (results_cell2 Tryz.results32 _ _ (s0 + 1) (rlC g (.slice A9 n9 c9)) _ _ rfl rfl hr8.out.range Tryz.underlying69 rfl (by kernel_rfl)) rfl ?_
          have hb9 := rj_low HJ9.out ho8.out
          refine ⟨⟨A9, c9, by rw [HN9.out, HIN.out.2], HC9.out, ?_, .inr fun b o hb => ?_⟩, by first | exact hb9 | (rw [HS0.out]; exact hb9)⟩
          ·obtain ⟨A8, c8, e8, hr9, -⟩ := (HO9.out.blk fun i hi => ho8.out.blk i (HO9.out.lt hi).2 (fun e => by have h9 : i = s0 + 1 := e; have := (HO9.out.lt hi).1; omega)).reads
           injection e8 with e8 _ _
           rw [e8]
           exact hr9
          ·obtain ⟨A8, c8, e8, -, hf9⟩ := HO9.out.reads
           injection e8 with e8 _ _
           have h11 := (HO9.out.lt (hf9 b o (by rw [← e8]; exact hb)).1).1
           first | omega | (rw [HS0.out]; omega)
       ·have he2 : (q1 == e) = false := by simp [g2]
        have HGE := Lib.hid (HGU.out (fun h => h.elim (fun h => g1 h) (fun h => g2 h.1)))
        clear HLU HGU g1 g2
        have HLT : Hid (k ≤ n) := Lib.hid (by omega)
        have HTL : Hid ((KL.take k).length = k) := Lib.hid (by rw [List.length_take]; have := HN.out; omega)
        have HDL : Hid ((KL.drop k).length = n - k) := Lib.hid (by rw [List.length_drop]; have := HN.out; omega)
        have HML : Hid (∀ i, (amM KL k e p i).length ≤ n + 1) := Lib.hid (fun i => by
         have h1 := HTL.out
         have h2 := HDL.out
         have h3 := HLT.out
         unfold amM
         split <;> simp only [List.length_append, List.length_singleton, List.length_nil, h1, h2] <;> omega)
        have HIN : Hid (amM KL k e p 5 = addL (g.m : Int) g.cp KL (e, p) ∧ addE (g.m : Int) g.cp KL (e, p) = 0) := Lib.hid (by
         refine ⟨?_, HE0.out⟩
         unfold addL
         rw [if_pos HE0.out, ← ins_at HGD.out.asc HNM.out k HLO.out HGE.out]
         show KL.take k ++ [(e, p)] ++ KL.drop k = _
         simp)
        obtain ⟨i0, hi, hz1, hz2, hz3⟩ := info_parts infoRk
        have HJ0 : Hid (AdLJ g w s0 (.slice (some ⟨bb, off, none⟩) n c) e p (amM KL k e p) 0 [] w7.drew) := Lib.hid ⟨⟨fun _ => HJ7.out.up (dc_drew (Below.refl _ _)), fun v hv => by cases hv⟩, HX7.out.up (dc_drew (Below.refl _ _))⟩
        go_upto_region 11 with fail
        refine AK.region_facts (Rp := Below0) (Kp := TwoR) (adLF s0 n c k (some ⟨bb, off, none⟩) e p KL) (AdLJ g w s0 (.slice (some ⟨bb, off, none⟩) n c) e p (amM KL k e p)) [[], [], [82], [], [83, 84], [81, 85], [], [87], [86, 88], [], [90], [], [91, 92], [89, 93], [], [95, 94]] [0, 5, 8, 13, 15] [[], [81], [86], [89], [94], [94]] [5, 5, 1, 5, 5, 5, 2, 5, 5, 5, 3, 5, 5, 5, 5, 5] [0, 0, 0, 0, 0, 0, 0, 0, 0, 0, 0, 0, 0, 0, 0, 0] [] (fun u => by simp only [adLF, AK.temps, List.map_cons, List.map_nil, fillL, List.setIfInBounds_toArray, List.set_cons_zero, List.set_cons_succ]; rfl) (by kernel_rfl) (by kernel_rfl) (fun _ _ h => h.1) (fun _ _ h => TwoK.of h) (fun _ _ _ _ hb h => ⟨h.1.st hb, h.2.up hb⟩) (HJ0.out) ?_ ?_
        ·refine AK.ss rfl rfl ?_ ?_
         ·intro u w_ hJ hA_ hF K hK
          clear hF
          go_simp
          exact hK.out _ _ ⟨hJ.1.new rfl (by omega), hJ.2.up (below_alloc_new _)⟩ (TwoK.of (below_alloc_new _)) trivial
         refine AK.sc (lim := 5) (lo := 0) rfl rfl rfl rfl ?_ ?_
         ·intro k_ u w_ hk_ hl_ hJ hF K hK
          clear hF
          go_simp
          exact hK.out _ _ (Below.refl _ _) (rfl) trivial
         refine AK.sc (lim := 1) (lo := 0) rfl rfl rfl rfl ?_ ?_
         ·intro k_ u w_ hk_ hl_ hJ hF K hK
          have h82 : u 82 = .pointer (some ⟨s0, 21, none⟩) := AK.facts_get hF 82 (by simp)
          clear hF
          simp only [h82] at hK ⊢
          clear h82
          have c_ := (hJ.1.1 (by omega)).box.at 21 _ rfl
          go_simp
          exact hK.out _ _ (Below.refl _ _) (rfl) trivial
         refine AK.sc (lim := 5) (lo := 0) rfl rfl rfl rfl ?_ ?_
         ·intro k_ u w_ hk_ hl_ hJ hF K hK
          clear hF
          go_simp
          exact hK.out _ _ (Below.refl _ _) (rfl) trivial
         refine AK.sc (lim := 5) (lo := 0) rfl rfl rfl rfl ?_ ?_
         ·intro k_ u w_ hk_ hl_ hJ hF K hK
          have h83 : u 83 = .slice (some ⟨bb, off, none⟩) n c := AK.facts_get hF 83 (by simp)
          have h84 : u 84 = .int .i64 (k : Int) := AK.facts_get hF 84 (by simp)
          clear hF
          simp only [h83, h84] at hK ⊢
          clear h83 h84
          refine wp_slc_h (R := lyP) 67 _ _ rfl Tryz.underlying67 i0 hi hz2 (some ⟨bb, off, none⟩) n c k KL HN.out rfl rfl HLT.out HCC.out ?_
          intro A2 c2 hr2
          exact hK.out _ _ (Below.refl _ _) ⟨A2, c2, rfl, hr2⟩ trivial
         refine AK.ss rfl rfl ?_ ?_
         ·intro u w_ hJ hA_ hF K hK
          have h85 : prP KL (KL.take k) (some ⟨bb, off, none⟩) k (u 85) := AK.facts_get hF 85 (by simp)
          clear hF
          obtain ⟨A_, c_, e_, hr_⟩ := h85
          have ho_ := (hJ.1.2 _ rfl).1
          simp only [e_] at hK ⊢
          clear e_
          have hz_ := hr_ _ (HZ.out.up ((hJ.1.1 (by omega)).low.mono (Nat.le_of_eq HS0.out)))
          refine wp_app_two (R := lyP) (.tmp 81) (.tmp 85) 67 rfl i0 _ 16 Tryz.underlying67 hi hz1 hz2 hz3 (by omega) rfl rfl ho_.1 ho_.2 A_ _ c_ (KL.take k) (HTL.out) rfl hz_ (by have h7 := HML.out (0 + 1); have := HLN.out; have := HLT.out; omega) (hJ.1.1 (by omega)).sz ?_
          intro v' w' ho' hg' hb' hn'
          exact hK.out _ _ ⟨hJ.1.app (by omega) (by first | exact ho'.out | (have h9 := ho'.out; simpa using h9)) hg'.out hn'.out.1, hJ.2.same (hn'.out.2.2 _ _ hJ.2.blk rfl)⟩ (hn'.out.2) trivial
         refine AK.sc (lim := 2) (lo := 0) rfl rfl rfl rfl ?_ ?_
         ·intro k_ u w_ hk_ hl_ hJ hF K hK
          clear hF
          refine wp_load_is 124 _ rfl (.pointer (some ⟨s0 + 2, 0, none⟩)) rfl (.agg #[.int .i64 e, .int .i64 p]) (hJ.2.rg.load 0 124 (lkCelP (e, p)) rfl _ Tryz.underlying124 rfl (by kernel_rfl)) ?_
          exact hK.out _ _ (Below.refl _ _) rfl trivial
         refine AK.sc (lim := 5) (lo := 0) rfl rfl rfl rfl ?_ ?_
         ·intro k_ u w_ hk_ hl_ hJ hF K hK
          have h87 : u 87 = .agg #[.int .i64 e, .int .i64 p] := AK.facts_get hF 87 (by simp)
          clear hF
          simp only [h87] at hK ⊢
          clear h87
          go_simp
          exact hK.out _ _ (below_alloc_new _) ⟨_, rfl, Wh.new _ 124 (lkCelP (e, p))⟩ trivial
         refine AK.ss rfl rfl ?_ ?_
         ·intro u w_ hJ hA_ hF K hK
          have h88 : xrP e p (u 88) w_ := AK.facts_get hF 88 (by simp)
          clear hF
          obtain ⟨g_, e_, hw_⟩ := h88
          have ho_ := (hJ.1.2 _ rfl).1
          simp only [e_] at hK ⊢
          clear e_
          refine wp_app_two (R := lyP) (.tmp 86) (.tmp 88) 67 rfl i0 _ 16 Tryz.underlying67 hi hz1 hz2 hz3 (by omega) rfl rfl ho_.1 ho_.2 (some ⟨g_, 0, none⟩) 1 1 [(e, p)] rfl rfl (row_one (R := lyP) (x := (e, p)) hw_) (by have h7 := HML.out (0 + 1 + 1); have := HLN.out; omega) (hJ.1.1 (by omega)).sz ?_
          intro v' w' ho' hg' hb' hn'
          exact hK.out _ _ ⟨hJ.1.app (by omega) (by first | exact ho'.out | (have h9 := ho'.out; simpa using h9)) hg'.out hn'.out.1, hJ.2.same (hn'.out.2.2 _ _ hJ.2.blk rfl)⟩ (hn'.out.2) trivial
         refine AK.sc (lim := 5) (lo := 0) rfl rfl rfl rfl ?_ ?_
         ·intro k_ u w_ hk_ hl_ hJ hF K hK
          clear hF
          go_simp
          exact hK.out _ _ (Below.refl _ _) (rfl) trivial
         refine AK.sc (lim := 3) (lo := 0) rfl rfl rfl rfl ?_ ?_
         ·intro k_ u w_ hk_ hl_ hJ hF K hK
          have h90 : u 90 = .pointer (some ⟨s0, 21, none⟩) := AK.facts_get hF 90 (by simp)
          clear hF
          simp only [h90] at hK ⊢
          clear h90
          have c_ := (hJ.1.1 (by omega)).box.at 21 _ rfl
          go_simp
          exact hK.out _ _ (Below.refl _ _) (rfl) trivial
         refine AK.sc (lim := 5) (lo := 0) rfl rfl rfl rfl ?_ ?_
         ·intro k_ u w_ hk_ hl_ hJ hF K hK
          clear hF
          go_simp
          exact hK.out _ _ (Below.refl _ _) (rfl) trivial
         refine AK.sc (lim := 5) (lo := 0) rfl rfl rfl rfl ?_ ?_
         ·intro k_ u w_ hk_ hl_ hJ hF K hK
          have h91 : u 91 = .slice (some ⟨bb, off, none⟩) n c := AK.facts_get hF 91 (by simp)
          have h92 : u 92 = .int .i64 (k : Int) := AK.facts_get hF 92 (by simp)
          clear hF
          simp only [h91, h92] at hK ⊢
          clear h91 h92
          refine wp_slc_l (R := lyP) 67 _ _ rfl Tryz.underlying67 i0 hi hz2 (some ⟨bb, off, none⟩) n c k KL HN.out rfl rfl HLT.out HCC.out ?_
          intro A2 c2 hr2
          exact hK.out _ _ (Below.refl _ _) ⟨A2, c2, rfl, hr2⟩ trivial
         refine AK.ss rfl rfl ?_ ?_
         ·intro u w_ hJ hA_ hF K hK
          have h93 : prP KL (KL.drop k) (some ⟨bb, off, none⟩) (n - k) (u 93) := AK.facts_get hF 93 (by simp)
          clear hF
          obtain ⟨A_, c_, e_, hr_⟩ := h93
          have ho_ := (hJ.1.2 _ rfl).1
          simp only [e_] at hK ⊢
          clear e_
          have hz_ := hr_ _ (HZ.out.up ((hJ.1.1 (by omega)).low.mono (Nat.le_of_eq HS0.out)))
          refine wp_app_two (R := lyP) (.tmp 89) (.tmp 93) 67 rfl i0 _ 16 Tryz.underlying67 hi hz1 hz2 hz3 (by omega) rfl rfl ho_.1 ho_.2 A_ _ c_ (KL.drop k) (HDL.out) rfl hz_ (by have h7 := HML.out (0 + 1 + 1 + 1); have := HLN.out; have := HLT.out; omega) (hJ.1.1 (by omega)).sz ?_
          intro v' w' ho' hg' hb' hn'
          exact hK.out _ _ ⟨hJ.1.app (by omega) (by first | exact ho'.out | (have h9 := ho'.out; simpa using h9)) hg'.out hn'.out.1, hJ.2.same (hn'.out.2.2 _ _ hJ.2.blk rfl)⟩ (hn'.out.2) trivial
         refine AK.sc (lim := 5) (lo := 0) rfl rfl rfl rfl ?_ ?_
         ·intro k_ u w_ hk_ hl_ hJ hF K hK
          clear hF
          go_simp
          exact hK.out _ _ (Below.refl _ _) (rfl) trivial
         refine AK.ss rfl rfl ?_ ?_
         ·intro u w_ hJ hA_ hF K hK
          have h95 : u 95 = .pointer (some ⟨s0, 21, none⟩) := AK.facts_get hF 95 (by simp)
          clear hF
          simp only [h95] at hK ⊢
          clear h95
          have hJ9 : AdLJ g w s0 (.slice (some ⟨bb, off, none⟩) n c) e p (amM KL k e p) 4 [u 94] w_ := hJ
          clear hJ
          obtain ⟨A9, c9, h94, hq9, -⟩ := (hJ9.1.2 _ rfl).1.1.reads
          have hbx := (hJ9.1.1 (by omega)).box
          have c_ := hbx.at 21 _ rfl
          have y_ := hbx.frozen 21
          clear hq9 hbx
          obtain ⟨n9, hn9⟩ : ∃ n9, (amM KL k e p 4).length = n9 := ⟨_, rfl⟩
          rw [hn9] at h94
          simp only [h94] at hK ⊢
          clear hn9
          obtain ⟨k9, t9⟩ := RmJ.put h94 hJ9.1 rfl
          have hx9 := hJ9.2.same (t9.2 _ _ hJ9.2.blk rfl)
          clear hJ9 h94
          go_simp
          exact hK.out undef _ ⟨k9, hx9⟩ t9 trivial
         exact AK.StepsOk.nil
        ·intro u W9 hJ9 hF
         clear hF
         have hj9 : AdLJ g w s0 (.slice (some ⟨bb, off, none⟩) n c) e p (amM KL k e p) 5 [u 94] W9 := hJ9
         have h9 := hj9.1.2 _ rfl
         obtain ⟨A9, c9, e9, hr9, -⟩ := h9.1.1.reads
         rw [HIN.out.1] at e9 hr9
         obtain ⟨n9, hn9⟩ : ∃ n9, (addL (g.m : Int) g.cp KL (e, p)).length = n9 := ⟨_, rfl⟩
         rw [hn9] at e9
         have hj10 := h9.2 (by omega)
         have hc9 := h9.1.1
         rw [HIN.out.1, e9] at hc9
         rw [e9] at hj10
         have HJ9 := Lib.hid hj10
         have HC9 := Lib.hid (own_le hc9)
         have HO9 := Lib.hid hc9
         have HN9 := Lib.hid hn9
         simp only [e9]
         clear h9 hr9 hc9 hJ9 e9 hj9 hj10 hn9
         have HM3 : True := trivial
         go_wp2_with (first
          | (clear HM3; refine wpList_load_is rfl 69 _ rfl (.pointer (some ⟨s0, 0, none⟩)) rfl (rlV g (.slice A9 n9 c9)) (HLD.out _ _ HJ9.out) ?_)
          | (refine wpList_store_wh rfl 69 _ _ rfl (s0 + 1) rfl 69 (rlC gr0 (.slice none 0 0)) (rlC g (.slice A9 n9 c9)) rfl HJ9.out.out rfl (by kernel_rfl) (by kernel_rfl) ?_; intro W8 hr8 ho8 hz8))
         refine bodyPost_ret (v := .tuple #[rlV g (.slice A9 n9 c9), .int .i64 0]) (results_cell2 Tryz.results32 _ _ (s0 + 1) (rlC g (.slice A9 n9 c9)) _ _ rfl rfl hr8.out.range Tryz.underlying69 rfl (by kernel_rfl)) rfl ?_
         have hb9 := rj_low HJ9.out ho8.out
         refine ⟨⟨A9, c9, by rw [HN9.out, HIN.out.2], HC9.out, ?_, .inr fun b o hb => ?_⟩, by first | exact hb9 | (rw [HS0.out]; exact hb9)⟩
         ·obtain ⟨A8, c8, e8, hr9, -⟩ := (HO9.out.blk fun i hi => ho8.out.blk i (HO9.out.lt hi).2 (fun e => by have h9 : i = s0 + 1 := e; have := (HO9.out.lt hi).1; omega)).reads
          injection e8 with e8 _ _
          rw [e8]
          exact hr9
         ·obtain ⟨A8, c8, e8, -, hf9⟩ := HO9.out.reads
          injection e8 with e8 _ _
          have h11 := (HO9.out.lt (hf9 b o (by rw [← e8]; exact hb)).1).1
          first | omega | (rw [HS0.out]; omega)
     ·obtain rfl : n = k := by omega
      have hltz : ¬ (n : Int) < (n : Int) := by omega
      have HGE : Hid (∀ a, KL[n]? = some a → ¬ ltK a (e, p)) := Lib.hid (fun a ha => by
       rw [List.getElem?_eq_none (Nat.le_of_eq HN.out)] at ha; cases ha)
      have HLT : Hid (n ≤ n) := Lib.hid (by omega)
      have HTL : Hid ((KL.take n).length = n) := Lib.hid (by rw [List.length_take]; have := HN.out; omega)
      have HDL : Hid ((KL.drop n).length = n - n) := Lib.hid (by rw [List.length_drop]; have := HN.out; omega)
      have HML : Hid (∀ i, (amM KL n e p i).length ≤ n + 1) := Lib.hid (fun i => by
       have h1 := HTL.out
       have h2 := HDL.out
       have h3 := HLT.out
       unfold amM
       split <;> simp only [List.length_append, List.length_singleton, List.length_nil, h1, h2] <;> omega)
      have HIN : Hid (amM KL n e p 5 = addL (g.m : Int) g.cp KL (e, p) ∧ addE (g.m : Int) g.cp KL (e, p) = 0) := Lib.hid (by
       refine ⟨?_, HE0.out⟩
       unfold addL
       rw [if_pos HE0.out, ← ins_at HGD.out.asc HNM.out n HLO.out HGE.out]
       show KL.take n ++ [(e, p)] ++ KL.drop n = _
       simp)
      obtain ⟨i0, hi, hz1, hz2, hz3⟩ := info_parts infoRk
      have HJ0 : Hid (AdLJ g w s0 (.slice A n c) e p (amM KL n e p) 0 [] w7.drew) := Lib.hid ⟨⟨fun _ => HJ7.out.up (dc_drew (Below.refl _ _)), fun v hv => by cases hv⟩, HX7.out.up (dc_drew (Below.refl _ _))⟩
      go_upto_region 11 with fail
      refine AK.region_facts (Rp := Below0) (Kp := TwoR) (adLF s0 n c n A e p KL) (AdLJ g w s0 (.slice A n c) e p (amM KL n e p)) [[], [], [82], [], [83, 84], [81, 85], [], [87], [86, 88], [], [90], [], [91, 92], [89, 93], [], [95, 94]] [0, 5, 8, 13, 15] [[], [81], [86], [89], [94], [94]] [5, 5, 1, 5, 5, 5, 2, 5, 5, 5, 3, 5, 5, 5, 5, 5] [0, 0, 0, 0, 0, 0, 0, 0, 0, 0, 0, 0, 0, 0, 0, 0] [] (fun u => by simp only [adLF, AK.temps, List.map_cons, List.map_nil, fillL, List.setIfInBounds_toArray, List.set_cons_zero, List.set_cons_succ]; rfl) (by kernel_rfl) (by kernel_rfl) (fun _ _ h => h.1) (fun _ _ h => TwoK.of h) (fun _ _ _ _ hb h => ⟨h.1.st hb, h.2.up hb⟩) (HJ0.out) ?_ ?_
      ·refine AK.ss rfl rfl ?_ ?_
       ·intro u w_ hJ hA_ hF K hK
        clear hF
        go_simp
        exact hK.out _ _ ⟨hJ.1.new rfl (by omega), hJ.2.up (below_alloc_new _)⟩ (TwoK.of (below_alloc_new _)) trivial
       refine AK.sc (lim := 5) (lo := 0) rfl rfl rfl rfl ?_ ?_
       ·intro k_ u w_ hk_ hl_ hJ hF K hK
        clear hF
        go_simp
        exact hK.out _ _ (Below.refl _ _) (rfl) trivial
       refine AK.sc (lim := 1) (lo := 0) rfl rfl rfl rfl ?_ ?_
       ·intro k_ u w_ hk_ hl_ hJ hF K hK
        have h82 : u 82 = .pointer (some ⟨s0, 21, none⟩) := AK.facts_get hF 82 (by simp)
        clear hF
        simp only [h82] at hK ⊢
        clear h82
        have c_ := (hJ.1.1 (by omega)).box.at 21 _ rfl
        go_simp
        exact hK.out _ _ (Below.refl _ _) (rfl) trivial
       refine AK.sc (lim := 5) (lo := 0) rfl rfl rfl rfl ?_ ?_
       ·intro k_ u w_ hk_ hl_ hJ hF K hK
        clear hF
        go_simp
        exact hK.out _ _ (Below.refl _ _) (rfl) trivial
       refine AK.sc (lim := 5) (lo := 0) rfl rfl rfl rfl ?_ ?_
       ·intro k_ u w_ hk_ hl_ hJ hF K hK
        have h83 : u 83 = .slice A n c := AK.facts_get hF 83 (by simp)
        have h84 : u 84 = .int .i64 (n : Int) := AK.facts_get hF 84 (by simp)
        clear hF
        simp only [h83, h84] at hK ⊢
        clear h83 h84
        refine wp_slc_h (R := lyP) 67 _ _ rfl Tryz.underlying67 i0 hi hz2 A n c n KL HN.out rfl rfl HLT.out HCC.out ?_
        intro A2 c2 hr2
        exact hK.out _ _ (Below.refl _ _) ⟨A2, c2, rfl, hr2⟩ trivial
       refine AK.ss rfl rfl ?_ ?_
       ·intro u w_ hJ hA_ hF K hK
        have h85 : prP KL (KL.take n) A n (u 85) := AK.facts_get hF 85 (by simp)
        clear hF
        obtain ⟨A_, c_, e_, hr_⟩ := h85
        have ho_ := (hJ.1.2 _ rfl).1
        simp only [e_] at hK ⊢
        clear e_
        have hz_ := hr_ _ (HZ.out.up ((hJ.1.1 (by omega)).low.mono (Nat.le_of_eq HS0.out)))
        refine wp_app_two (R := lyP) (.tmp 81) (.tmp 85) 67 rfl i0 _ 16 Tryz.underlying67 hi hz1 hz2 hz3 (by omega) rfl rfl ho_.1 ho_.2 A_ _ c_ (KL.take n) (HTL.out) rfl hz_ (by have h7 := HML.out (0 + 1); have := HLN.out; have := HLT.out; omega) (hJ.1.1 (by omega)).sz ?_
        intro v' w' ho' hg' hb' hn'
        exact hK.out _ _ ⟨hJ.1.app (by omega) (by first | exact ho'.out | (have h9 := ho'.out; simpa using h9)) hg'.out hn'.out.1, hJ.2.same (hn'.out.2.2 _ _ hJ.2.blk rfl)⟩ (hn'.out.2) trivial
       refine AK.sc (lim := 2) (lo := 0) rfl rfl rfl rfl ?_ ?_
       ·intro k_ u w_ hk_ hl_ hJ hF K hK
        clear hF
        refine wp_load_is 124 _ rfl (.pointer (some ⟨s0 + 2, 0, none⟩)) rfl (.agg #[.int .i64 e, .int .i64 p]) (hJ.2.rg.load 0 124 (lkCelP (e, p)) rfl _ Tryz.underlying124 rfl (by kernel_rfl)) ?_
        exact hK.out _ _ (Below.refl _ _) rfl trivial
       refine AK.sc (lim := 5) (lo := 0) rfl rfl rfl rfl ?_ ?_
       ·intro k_ u w_ hk_ hl_ hJ hF K hK
        have h87 : u 87 = .agg #[.int .i64 e, .int .i64 p] := AK.facts_get hF 87 (by simp)
        clear hF
        simp only [h87] at hK ⊢
        clear h87
        go_simp
        exact hK.out _ _ (below_alloc_new _) ⟨_, rfl, Wh.new _ 124 (lkCelP (e, p))⟩ trivial
       refine AK.ss rfl rfl ?_ ?_
       ·intro u w_ hJ hA_ hF K hK
        have h88 : xrP e p (u 88) w_ := AK.facts_get hF 88 (by simp)
        clear hF
        obtain ⟨g_, e_, hw_⟩ := h88
        have ho_ := (hJ.1.2 _ rfl).1
        simp only [e_] at hK ⊢
        clear e_
        refine wp_app_two (R := lyP) (.tmp 86) (.tmp 88) 67 rfl i0 _ 16 Tryz.underlying67 hi hz1 hz2 hz3 (by omega) rfl rfl ho_.1 ho_.2 (some ⟨g_, 0, none⟩) 1 1 [(e, p)] rfl rfl (row_one (R := lyP) (x := (e, p)) hw_) (by have h7 := HML.out (0 + 1 + 1); have := HLN.out; omega) (hJ.1.1 (by omega)).sz ?_
        intro v' w' ho' hg' hb' hn'
        exact hK.out _ _ ⟨hJ.1.app (by omega) (by first | exact ho'.out | (have h9 := ho'.out; simpa using h9)) hg'.out hn'.out.1, hJ.2.same (hn'.out.2.2 _ _ hJ.2.blk rfl)⟩ (hn'.out.2) trivial
       refine AK.sc (lim := 5) (lo := 0) rfl rfl rfl rfl ?_ ?_
       ·intro k_ u w_ hk_ hl_ hJ hF K hK
        clear hF
        go_simp
        exact hK.out _ _ (Below.refl _ _) (rfl) trivial
       refine AK.sc (lim := 3) (lo := 0) rfl rfl rfl rfl ?_ ?_
       ·intro k_ u w_ hk_ hl_ hJ hF K hK
        have h90 : u 90 = .pointer (some ⟨s0, 21, none⟩) := AK.facts_get hF 90 (by simp)
        clear hF
        simp only [h90] at hK ⊢
        clear h90
        have c_ := (hJ.1.1 (by omega)).box.at 21 _ rfl
        go_simp
        exact hK.out _ _ (Below.refl _ _) (rfl) trivial
       refine AK.sc (lim := 5) (lo := 0) rfl rfl rfl rfl ?_ ?_
       ·intro k_ u w_ hk_ hl_ hJ hF K hK
        clear hF
        go_simp
        exact hK.out _ _ (Below.refl _ _) (rfl) trivial
       refine AK.sc (lim := 5) (lo := 0) rfl rfl rfl rfl ?_ ?_
       ·intro k_ u w_ hk_ hl_ hJ hF K hK
        have h91 : u 91 = .slice A n c := AK.facts_get hF 91 (by simp)
        have h92 : u 92 = .int .i64 (n : Int) := AK.facts_get hF 92 (by simp)
        clear hF
        simp only [h91, h92] at hK ⊢
        clear h91 h92
        refine wp_slc_l (R := lyP) 67 _ _ rfl Tryz.underlying67 i0 hi hz2 A n c n KL HN.out rfl rfl HLT.out HCC.out ?_
        intro A2 c2 hr2
        exact hK.out _ _ (Below.refl _ _) ⟨A2, c2, rfl, hr2⟩ trivial
       refine AK.ss rfl rfl ?_ ?_
       ·intro u w_ hJ hA_ hF K hK
        have h93 : prP KL (KL.drop n) A (n - n) (u 93) := AK.facts_get hF 93 (by simp)
        clear hF
        obtain ⟨A_, c_, e_, hr_⟩ := h93
        have ho_ := (hJ.1.2 _ rfl).1
        simp only [e_] at hK ⊢
        clear e_
        have hz_ := hr_ _ (HZ.out.up ((hJ.1.1 (by omega)).low.mono (Nat.le_of_eq HS0.out)))
        refine wp_app_two (R := lyP) (.tmp 89) (.tmp 93) 67 rfl i0 _ 16 Tryz.underlying67 hi hz1 hz2 hz3 (by omega) rfl rfl ho_.1 ho_.2 A_ _ c_ (KL.drop n) (HDL.out) rfl hz_ (by have h7 := HML.out (0 + 1 + 1 + 1); have := HLN.out; have := HLT.out; omega) (hJ.1.1 (by omega)).sz ?_
        intro v' w' ho' hg' hb' hn'
        exact hK.out _ _ ⟨hJ.1.app (by omega) (by first | exact ho'.out | (have h9 := ho'.out; simpa using h9)) hg'.out hn'.out.1, hJ.2.same (hn'.out.2.2 _ _ hJ.2.blk rfl)⟩ (hn'.out.2) trivial
       refine AK.sc (lim := 5) (lo := 0) rfl rfl rfl rfl ?_ ?_
       ·intro k_ u w_ hk_ hl_ hJ hF K hK
        clear hF
        go_simp
        exact hK.out _ _ (Below.refl _ _) (rfl) trivial
       refine AK.ss rfl rfl ?_ ?_
       ·intro u w_ hJ hA_ hF K hK
        have h95 : u 95 = .pointer (some ⟨s0, 21, none⟩) := AK.facts_get hF 95 (by simp)
        clear hF
        simp only [h95] at hK ⊢
        clear h95
        have hJ9 : AdLJ g w s0 (.slice A n c) e p (amM KL n e p) 4 [u 94] w_ := hJ
        clear hJ
        obtain ⟨A9, c9, h94, hq9, -⟩ := (hJ9.1.2 _ rfl).1.1.reads
        have hbx := (hJ9.1.1 (by omega)).box
        have c_ := hbx.at 21 _ rfl
        have y_ := hbx.frozen 21
        clear hq9 hbx
        obtain ⟨n9, hn9⟩ : ∃ n9, (amM KL n e p 4).length = n9 := ⟨_, rfl⟩
        rw [hn9] at h94
        simp only [h94] at hK ⊢
        clear hn9
        obtain ⟨k9, t9⟩ := RmJ.put h94 hJ9.1 rfl
        have hx9 := hJ9.2.same (t9.2 _ _ hJ9.2.blk rfl)
        clear hJ9 h94
        go_simp
        exact hK.out undef _ ⟨k9, hx9⟩ t9 trivial
       exact AK.StepsOk.nil
      ·intro u W9 hJ9 hF
       clear hF
       have hj9 : AdLJ g w s0 (.slice A n c) e p (amM KL n e p) 5 [u 94] W9 := hJ9
       have h9 := hj9.1.2 _ rfl
       obtain ⟨A9, c9, e9, hr9, -⟩ := h9.1.1.reads
       rw [HIN.out.1] at e9 hr9
       obtain ⟨n9, hn9⟩ : ∃ n9, (addL (g.m : Int) g.cp KL (e, p)).length = n9 := ⟨_, rfl⟩
       rw [hn9] at e9
       have hj10 := h9.2 (by omega)
       have hc9 := h9.1.1
       rw [HIN.out.1, e9] at hc9
       rw [e9] at hj10
       have HJ9 := Lib.hid hj10
       have HC9 := Lib.hid (own_le hc9)
       have HO9 := Lib.hid hc9
       have HN9 := Lib.hid hn9
       simp only [e9]
       clear h9 hr9 hc9 hJ9 e9 hj9 hj10 hn9
       have HM3 : True := trivial
       go_wp2_with (first
        | (clear HM3; refine wpList_load_is rfl 69 _ rfl (.pointer (some ⟨s0, 0, none⟩)) rfl (rlV g (.slice A9 n9 c9)) (HLD.out _ _ HJ9.out) ?_)
        | (refine wpList_store_wh rfl 69 _ _ rfl (s0 + 1) rfl 69 (rlC gr0 (.slice none 0 0)) (rlC g (.slice A9 n9 c9)) rfl HJ9.out.out rfl (by kernel_rfl) (by kernel_rfl) ?_; intro W8 hr8 ho8 hz8))
       refine bodyPost_ret (v := .tuple #[rlV g (.slice A9 n9 c9), .int .i64 0]) (results_cell2 Tryz.results32 _ _ (s0 + 1) (rlC g (.slice A9 n9 c9)) _ _ rfl rfl hr8.out.range Tryz.underlying69 rfl (by kernel_rfl)) rfl ?_
       have hb9 := rj_low HJ9.out ho8.out
       refine ⟨⟨A9, c9, by rw [HN9.out, HIN.out.2], HC9.out, ?_, .inr fun b o hb => ?_⟩, by first | exact hb9 | (rw [HS0.out]; exact hb9)⟩
       ·obtain ⟨A8, c8, e8, hr9, -⟩ := (HO9.out.blk fun i hi => ho8.out.blk i (HO9.out.lt hi).2 (fun e => by have h9 : i = s0 + 1 := e; have := (HO9.out.lt hi).1; omega)).reads
        injection e8 with e8 _ _
        rw [e8]
        exact hr9
       ·obtain ⟨A8, c8, e8, -, hf9⟩ := HO9.out.reads
        injection e8 with e8 _ _
        have h11 := (HO9.out.lt (hf9 b o (by rw [← e8]; exact hb)).1).1
        first | omega | (rw [HS0.out]; omega)
  ·have HH : True := trivial
   have he : addE (g.m : Int) g.cp KL (e, p) = 2 := by unfold addE; rw [if_pos h1, if_neg h2]
   by_cases h0 : p < 0
   ·have hf1 : decide (p < 0) = true := decide_eq_true h0
    have HE0 : Hid (addL (g.m : Int) g.cp KL (e, p) = KL ∧ addE (g.m : Int) g.cp KL (e, p) = 2) := Lib.hid ⟨addE_lt (he) (by omega), he⟩
    clear h1 h2 h0 he
    have HM1 : True := trivial
    have HM2 : True := trivial
    go_enter Tryz.func32, Tryz.ntmps32
    go_wp2_with (first
     | (clear HM0; refine wpList_store_wh rfl 124 _ _ rfl (s0 + 2) rfl 124 [.int .i64 0, .int .i64 0] (lkCelP (e, p)) rfl HXX.out rfl (by kernel_rfl) (by kernel_rfl) ?_; intro w6 hr6 ho6 hz6; have HX6 := Lib.hid hr6.out; have HJ6 := Lib.hid (rj_put2 HJ2.out ho6.out hz6); have hj6 := HJ6.out.box; have c3_ := hj6.at 3 _ rfl; have c20_ := hj6.at 20 _ rfl; have c21_ := hj6.at 21 _ rfl; clear hr6 ho6 hz6 hj6)
     | (clear HM1; refine wpList_load_is rfl 69 _ rfl (.pointer (some ⟨s0, 0, none⟩)) rfl (rlV g (.slice A n c)) (HLD.out _ _ HJ6.out) ?_)
     | (refine wpList_store_wh rfl 69 _ _ rfl (s0 + 1) rfl 69 (rlC gr0 (.slice none 0 0)) (rlC g (.slice A n c)) rfl HJ6.out.out rfl (by kernel_rfl) (by kernel_rfl) ?_; intro W8 hr8 ho8 hz8))
    refine bodyPost_ret (v := .tuple #[rlV g (.slice A n c), .int .i64 2]) (results_cell2 Tryz.results32 _ _ (s0 + 1) (rlC g (.slice A n c)) _ _ rfl rfl hr8.out.range Tryz.underlying69 rfl (by kernel_rfl)) rfl ?_
    rw [HE0.out.1, HE0.out.2]
    have h9 := rj_low HJ6.out ho8.out
    rw [← HS0.out] at h9
    exact ⟨⟨A, c, by rw [HN.out], by rw [HN.out]; exact HCC.out, HZ.out.up h9, .inl rfl⟩, by first | exact h9 | (rw [← HS0.out]; exact h9)⟩
   ·have hf1 : decide (p < 0) = false := decide_eq_false h0
    have hf3 : decide (p ≥ g.cp) = true := decide_eq_true (by omega)
    have hf4 : decide (g.cp ≤ p) = true := decide_eq_true (by omega)
    have HE0 : Hid (addL (g.m : Int) g.cp KL (e, p) = KL ∧ addE (g.m : Int) g.cp KL (e, p) = 2) := Lib.hid ⟨addE_lt (he) (by omega), he⟩
    clear h1 h2 h0 he
    have HM1 : True := trivial
    have HM2 : True := trivial
    go_enter Tryz.func32, Tryz.ntmps32
    go_wp2_with (first
     | (clear HM0; refine wpList_store_wh rfl 124 _ _ rfl (s0 + 2) rfl 124 [.int .i64 0, .int .i64 0] (lkCelP (e, p)) rfl HXX.out rfl (by kernel_rfl) (by kernel_rfl) ?_; intro w6 hr6 ho6 hz6; have HX6 := Lib.hid hr6.out; have HJ6 := Lib.hid (rj_put2 HJ2.out ho6.out hz6); have hj6 := HJ6.out.box; have c3_ := hj6.at 3 _ rfl; have c20_ := hj6.at 20 _ rfl; have c21_ := hj6.at 21 _ rfl; clear hr6 ho6 hz6 hj6)
     | (clear HM1; refine wpList_load_is rfl 69 _ rfl (.pointer (some ⟨s0, 0, none⟩)) rfl (rlV g (.slice A n c)) (HLD.out _ _ HJ6.out) ?_)
     | (refine wpList_store_wh rfl 69 _ _ rfl (s0 + 1) rfl 69 (rlC gr0 (.slice none 0 0)) (rlC g (.slice A n c)) rfl HJ6.out.out rfl (by kernel_rfl) (by kernel_rfl) ?_; intro W8 hr8 ho8 hz8))
    refine bodyPost_ret (v := .tuple #[rlV g (.slice A n c), .int .i64 2]) (results_cell2 Tryz.results32 _ _ (s0 + 1) (rlC g (.slice A n c)) _ _ rfl rfl hr8.out.range Tryz.underlying69 rfl (by kernel_rfl)) rfl ?_
    rw [HE0.out.1, HE0.out.2]
    have h9 := rj_low HJ6.out ho8.out
    rw [← HS0.out] at h9
    exact ⟨⟨A, c, by rw [HN.out], by rw [HN.out]; exact HCC.out, HZ.out.up h9, .inl rfl⟩, by first | exact h9 | (rw [← HS0.out]; exact h9)⟩
 ·have he : addE (g.m : Int) g.cp KL (e, p) = 1 := by unfold addE; rw [if_neg h1]
  by_cases h0 : e < 0
  ·have hd1 : decide (e < 0) = true := decide_eq_true h0
   have HE0 : Hid (addL (g.m : Int) g.cp KL (e, p) = KL ∧ addE (g.m : Int) g.cp KL (e, p) = 1) := Lib.hid ⟨addE_lt (he) (by omega), he⟩
   clear h1 h0 he
   have HM1 : True := trivial
   have HM2 : True := trivial
   go_enter Tryz.func32, Tryz.ntmps32
   go_wp2_with (first
    | (clear HM0; refine wpList_store_wh rfl 124 _ _ rfl (s0 + 2) rfl 124 [.int .i64 0, .int .i64 0] (lkCelP (e, p)) rfl HXX.out rfl (by kernel_rfl) (by kernel_rfl) ?_; intro w6 hr6 ho6 hz6; have HX6 := Lib.hid hr6.out; have HJ6 := Lib.hid (rj_put2 HJ2.out ho6.out hz6); have hj6 := HJ6.out.box; have c3_ := hj6.at 3 _ rfl; have c20_ := hj6.at 20 _ rfl; have c21_ := hj6.at 21 _ rfl; clear hr6 ho6 hz6 hj6)
    | (clear HM1; refine wpList_load_is rfl 69 _ rfl (.pointer (some ⟨s0, 0, none⟩)) rfl (rlV g (.slice A n c)) (HLD.out _ _ HJ6.out) ?_)
    | (refine wpList_store_wh rfl 69 _ _ rfl (s0 + 1) rfl 69 (rlC gr0 (.slice none 0 0)) (rlC g (.slice A n c)) rfl HJ6.out.out rfl (by kernel_rfl) (by kernel_rfl) ?_; intro W8 hr8 ho8 hz8))
   refine bodyPost_ret (v := .tuple #[rlV g (.slice A n c), .int .i64 1]) (results_cell2 Tryz.results32 _ _ (s0 + 1) (rlC g (.slice A n c)) _ _ rfl rfl hr8.out.range Tryz.underlying69 rfl (by kernel_rfl)) rfl ?_
   rw [HE0.out.1, HE0.out.2]
   have h9 := rj_low HJ6.out ho8.out
   rw [← HS0.out] at h9
   exact ⟨⟨A, c, by rw [HN.out], by rw [HN.out]; exact HCC.out, HZ.out.up h9, .inl rfl⟩, by first | exact h9 | (rw [← HS0.out]; exact h9)⟩
  ·have hd1 : decide (e < 0) = false := decide_eq_false h0
   have hd3 : decide (e ≥ (g.m : Int)) = true := decide_eq_true (by omega)
   have hd4 : decide ((g.m : Int) ≤ e) = true := decide_eq_true (by omega)
   have HE0 : Hid (addL (g.m : Int) g.cp KL (e, p) = KL ∧ addE (g.m : Int) g.cp KL (e, p) = 1) := Lib.hid ⟨addE_lt (he) (by omega), he⟩
   clear h1 h0 he
   have HM1 : True := trivial
   have HM2 : True := trivial
   go_enter Tryz.func32, Tryz.ntmps32
   go_wp2_with (first
    | (clear HM0; refine wpList_store_wh rfl 124 _ _ rfl (s0 + 2) rfl 124 [.int .i64 0, .int .i64 0] (lkCelP (e, p)) rfl HXX.out rfl (by kernel_rfl) (by kernel_rfl) ?_; intro w6 hr6 ho6 hz6; have HX6 := Lib.hid hr6.out; have HJ6 := Lib.hid (rj_put2 HJ2.out ho6.out hz6); have hj6 := HJ6.out.box; have c3_ := hj6.at 3 _ rfl; have c20_ := hj6.at 20 _ rfl; have c21_ := hj6.at 21 _ rfl; clear hr6 ho6 hz6 hj6)
    | (clear HM1; refine wpList_load_is rfl 69 _ rfl (.pointer (some ⟨s0, 0, none⟩)) rfl (rlV g (.slice A n c)) (HLD.out _ _ HJ6.out) ?_)
    | (refine wpList_store_wh rfl 69 _ _ rfl (s0 + 1) rfl 69 (rlC gr0 (.slice none 0 0)) (rlC g (.slice A n c)) rfl HJ6.out.out rfl (by kernel_rfl) (by kernel_rfl) ?_; intro W8 hr8 ho8 hz8))
   refine bodyPost_ret (v := .tuple #[rlV g (.slice A n c), .int .i64 1]) (results_cell2 Tryz.results32 _ _ (s0 + 1) (rlC g (.slice A n c)) _ _ rfl rfl hr8.out.range Tryz.underlying69 rfl (by kernel_rfl)) rfl ?_
   rw [HE0.out.1, HE0.out.2]
   have h9 := rj_low HJ6.out ho8.out
   rw [← HS0.out] at h9
   exact ⟨⟨A, c, by rw [HN.out], by rw [HN.out]; exact HCC.out, HZ.out.up h9, .inl rfl⟩, by first | exact h9 | (rw [← HS0.out]; exact h9)⟩
open Go.ChangeShapes Go.WideShapes Go.ChangeAt Go.WideMaps Go.WideElems Go.RowKit Go.Deep Go.Joins
section
variable {H : Type} {enc : TypeId × Value → H} {P : Program} {W : World}
theorem open_nums {E I : TypeId} {fs : Array Field} {fuel : Nat} {cs : List Value} {x : DataW H × List MemPlace} (hE : P.underlying E = some (.struct fs))
  (hone : oneCellFields P fs = true) (hty : (fs.toList.all fun f => f.type == I) = true) (hI : P.underlying I = some (.int .i64))
  (hl : cs.length = fs.size) (h2 : DataW.trod enc P W 0 (fun _ => true) true fuel E cs = some x) :
  ∀ j, j < fs.size → ∃ z : Int, cs[j]? = some (.int .i64 z) ∧ (Lit.int .i64 z).wf = true := by
 intro j hj
 obtain ⟨xs, n', -, -, -, hxl, hff⟩ := DataW.trod_struct hE h2
 have hfj : fs[j]? = some fs[j] := Array.getElem?_eq_getElem hj
 obtain ⟨ho, hk1⟩ := hone_of hone j _ hfj
 have ht : fs[j].type = I := by
  have := List.all_eq_true.1 hty fs[j] (by simp)
  simpa using this
 have hxj : xs[j]? = some (xs[j]'(by omega)) := List.getElem?_eq_getElem (by omega)
 have h3 := hff j _ hfj
 rw [ho, hk1, ht, hxj] at h3
 obtain ⟨z, hz, -, hw⟩ := DataW.trod_int hI h3
 refine ⟨z, ?_, hw⟩
 have h5 : (cs.drop j).take 1 = [cs[j]'(by omega)] := by
  rw [List.drop_eq_getElem_cons (by omega)]; rfl
 rw [h5] at hz
 rw [List.getElem?_eq_getElem (by omega)]
 injection hz with hz
 rw [hz]
end
theorem cells21 {cs : List Value} (h : cs.length = 21) : ∃ c0 c1 c2 c3 c4 c5 c6 c7 c8 c9 c10 c11 c12 c13 c14 c15 c16 c17 c18 c19 c20, cs = [c0, c1, c2, c3, c4, c5, c6, c7, c8, c9, c10, c11, c12, c13, c14, c15, c16, c17, c18, c19, c20] := by
 match cs, h with
 | [c0, c1, c2, c3, c4, c5, c6, c7, c8, c9, c10, c11, c12, c13, c14, c15, c16, c17, c18, c19, c20], _ => exact ⟨c0, c1, c2, c3, c4, c5, c6, c7, c8, c9, c10, c11, c12, c13, c14, c15, c16, c17, c18, c19, c20, rfl⟩
section
variable {H : Type} {enc : TypeId × Value → H} {W : World}
set_option maxRecDepth 100000 in
theorem open_igrp {b0 : Nat} {v : Value} {d : DataW H} {p : List MemPlace} (hval : Value.okWide Tryz.prog W .any b0 29 v) (h : DataW.Trod enc Tryz.prog W 0 (fun _ => true) true 29 v d p) :
  ∃ g L G, v = grpV g ∧ GrK W g L G ∧ GrW g L G ∧ g.m ≤ 9223372036854775807 := by
 obtain ⟨cs, rfl, hsz⟩ := okWide_struct Tryz.underlying29 hval
 obtain ⟨fuel, hf⟩ := h
 have hcs : (Value.agg cs).cells.toList = cs.toList := by simp [Value.cells]
 rw [hcs] at hf
 obtain ⟨xs, n', -, -, hlen, hxl, hff⟩ := DataW.trod_struct Tryz.underlying29 hf
 have hC : Tryz.prog.cellsOf 29 = 21 := by kernel_rfl
 rw [hC] at hlen
 obtain ⟨c0, c1, c2, c3, c4, c5, c6, c7, c8, c9, c10, c11, c12, c13, c14, c15, c16, c17, c18, c19, c20, e21⟩ := cells21 hlen
 have k9 : Tryz.prog.cellsOf 9 = 1 := by kernel_rfl
 have kc : Tryz.prog.cellsOf 23 = 3 := by kernel_rfl
 have ka : Tryz.prog.cellsOf 24 = 1 := by kernel_rfl
 have kr : Tryz.prog.cellsOf 26 = 15 := by kernel_rfl
 have ke : Tryz.prog.cellsOf 27 = 1 := by kernel_rfl
 have hxl' : xs.length = 5 := hxl
 have hget : ∀ i, i < 5 → ∃ y, xs[i]? = some y := fun i hi => ⟨_, List.getElem?_eq_getElem (by omega)⟩
 have h0 : DataW.trod enc Tryz.prog W 0 (fun _ => true) true n' 9 ((cs.toList.drop 0).take (Tryz.prog.cellsOf 9)) = xs[0]? := hff 0 _ rfl
 have h1 : DataW.trod enc Tryz.prog W 0 (fun _ => true) true n' 23 ((cs.toList.drop 1).take (Tryz.prog.cellsOf 23)) = xs[1]? := hff 1 _ rfl
 have h2 : DataW.trod enc Tryz.prog W 0 (fun _ => true) true n' 24 ((cs.toList.drop 4).take (Tryz.prog.cellsOf 24)) = xs[2]? := hff 2 _ rfl
 have h3 : DataW.trod enc Tryz.prog W 0 (fun _ => true) true n' 26 ((cs.toList.drop 5).take (Tryz.prog.cellsOf 26)) = xs[3]? := hff 3 _ rfl
 have h4 : DataW.trod enc Tryz.prog W 0 (fun _ => true) true n' 27 ((cs.toList.drop 20).take (Tryz.prog.cellsOf 27)) = xs[4]? := hff 4 _ rfl
 obtain ⟨y0, e0⟩ := hget 0 (by omega)
 obtain ⟨y1, e1⟩ := hget 1 (by omega)
 obtain ⟨y2, e2⟩ := hget 2 (by omega)
 obtain ⟨y3, e3⟩ := hget 3 (by omega)
 obtain ⟨y4, e4⟩ := hget 4 (by omega)
 rw [e0, k9, e21] at h0
 rw [e1, kc, e21] at h1
 rw [e2, ka, e21] at h2
 rw [e3, kr, e21] at h3
 rw [e4, ke, e21] at h4
 have n1 := open_nums (cs := [c1, c2, c3]) Tryz.underlying23 (by kernel_rfl) (by kernel_rfl) Tryz.underlying3 rfl h1
 have n3 := open_nums (cs := [c5, c6, c7, c8, c9, c10, c11, c12, c13, c14, c15, c16, c17, c18, c19]) Tryz.underlying26 (by kernel_rfl) (by kernel_rfl) Tryz.underlying3 rfl h3
 obtain ⟨cur, q0, -, bc⟩ := DataW.trod_string Tryz.underlying9 h0
 obtain ⟨A, n, c, L, q4, ln, -, hz, wa⟩ := open_waccs Tryz.underlying24 Tryz.underlying151 (by kernel_rfl) (by kernel_rfl) (by kernel_rfl) Tryz.underlying3 h2
 obtain ⟨X, m, cap, G, q20, lg, hmx, he, hk, hb⟩ := open_entsC Tryz.underlying27 h4
 obtain ⟨z1, p1, -⟩ := n1 0 (by decide)
 obtain ⟨z2, p2, -⟩ := n1 1 (by decide)
 obtain ⟨z3, p3, -⟩ := n1 2 (by decide)
 obtain ⟨r0, s0, w0⟩ := n3 0 (by decide)
 obtain ⟨r1, s1, w1⟩ := n3 1 (by decide)
 obtain ⟨r2, s2, w2⟩ := n3 2 (by decide)
 obtain ⟨r3, s3, w3⟩ := n3 3 (by decide)
 obtain ⟨r4, s4, w4⟩ := n3 4 (by decide)
 obtain ⟨r5, s5, w5⟩ := n3 5 (by decide)
 obtain ⟨r6, s6, w6⟩ := n3 6 (by decide)
 obtain ⟨r7, s7, w7⟩ := n3 7 (by decide)
 obtain ⟨r8, s8, w8⟩ := n3 8 (by decide)
 obtain ⟨r9, s9, w9⟩ := n3 9 (by decide)
 obtain ⟨r10, s10, w10⟩ := n3 10 (by decide)
 obtain ⟨r11, s11, w11⟩ := n3 11 (by decide)
 obtain ⟨r12, s12, w12⟩ := n3 12 (by decide)
 obtain ⟨r13, s13, w13⟩ := n3 13 (by decide)
 obtain ⟨r14, s14, w14⟩ := n3 14 (by decide)
 have a0 : c0 = .string cur := by simpa using q0
 have a4 : c4 = .slice A n c := by simpa using q4
 have a20 : c20 = .slice X m cap := by simpa using q20
 have b1 : c1 = .int .i64 z1 := by simpa using p1
 have b2 : c2 = .int .i64 z2 := by simpa using p2
 have b3 : c3 = .int .i64 z3 := by simpa using p3
 have t0 : c5 = .int .i64 r0 := by simpa using s0
 have t1 : c6 = .int .i64 r1 := by simpa using s1
 have t2 : c7 = .int .i64 r2 := by simpa using s2
 have t3 : c8 = .int .i64 r3 := by simpa using s3
 have t4 : c9 = .int .i64 r4 := by simpa using s4
 have t5 : c10 = .int .i64 r5 := by simpa using s5
 have t6 : c11 = .int .i64 r6 := by simpa using s6
 have t7 : c12 = .int .i64 r7 := by simpa using s7
 have t8 : c13 = .int .i64 r8 := by simpa using s8
 have t9 : c14 = .int .i64 r9 := by simpa using s9
 have t10 : c15 = .int .i64 r10 := by simpa using s10
 have t11 : c16 = .int .i64 r11 := by simpa using s11
 have t12 : c17 = .int .i64 r12 := by simpa using s12
 have t13 : c18 = .int .i64 r13 := by simpa using s13
 have t14 : c19 = .int .i64 r14 := by simpa using s14
 subst a0 a4 a20 b1 b2 b3 t0 t1 t2 t3 t4 t5 t6 t7 t8 t9 t10 t11 t12 t13 t14
 refine ⟨⟨cur, z1, z2, z3, A, n, c, r0, r1, r2, r3, r4, r5, r6, r7, r8, r9, r10, r11, r12, r13, r14, X, m, cap⟩, L, G, ?_, ⟨ln, lg, hz, he, hk⟩, ⟨bc, fun x hx => ?_, hb⟩, hmx⟩
 ·rw [← Array.toArray_toList (xs := cs), e21]
 ·simp only [Grp.R, List.mem_cons, List.mem_nil_iff, or_false] at hx
  rcases hx with rfl | rfl | rfl | rfl | rfl | rfl | rfl | rfl | rfl | rfl | rfl | rfl | rfl | rfl | rfl
  ·exact w0
  ·exact w1
  ·exact w2
  ·exact w3
  ·exact w4
  ·exact w5
  ·exact w6
  ·exact w7
  ·exact w8
  ·exact w9
  ·exact w10
  ·exact w11
  ·exact w12
  ·exact w13
  ·exact w14
end
open Go.ChangeShapes Go.WideShapes Go.ChangeAt Go.WideMaps Go.WideElems Go.RowKit Go.Deep Go.Joins
theorem open_wlineK {H : Type} {enc : TypeId × Value → H} {W : World} {fuel : Nat} {cs : List Value} {x : DataW H × List MemPlace} (hf : DataW.trod enc Tryz.prog W 0 (fun _ => true) true fuel 44 cs = some x) :
  ∃ A len cap K, cs = [.slice A len cap] ∧ K.length = len ∧ len ≤ 9223372036854775807 ∧ LnkAt W A K ∧ ∀ l ∈ K, okK (kOf l) ∧ (Lit.int .i64 l.tgt).wf = true := by
 obtain ⟨A, len, cap, K, hcs, hlen, hmax, hz, hw⟩ := open_wlnks Tryz.underlying44 Tryz.underlying59 (by kernel_rfl) (by kernel_rfl) (by kernel_rfl) Tryz.underlying3 hf
 exact ⟨A, len, cap, K, hcs, hlen, hmax, hz, fun l hl => ⟨⟨(hw l hl).frm, (hw l hl).since⟩, (hw l hl).tgt⟩⟩
theorem cellsE7 {cs : List Value} (h : cs.length = 7) : ∃ c0 c1 c2 c3 c4 c5 c6, cs = [c0, c1, c2, c3, c4, c5, c6] := by
 match cs, h with
 | [c0, c1, c2, c3, c4, c5, c6], _ => exact ⟨c0, c1, c2, c3, c4, c5, c6, rfl⟩
section
variable {H : Type} {enc : TypeId × Value → H} {W : World}
end
open Go.ChangeShapes Go.WideShapes Go.ChangeAt Go.WideMaps Go.WideElems Go.RowKit Go.Deep Go.Joins
theorem list_of_all {α : Type} {S : Nat → α → Prop} : ∀ n : Nat, (∀ k, k < n → ∃ a, S k a) → ∃ L : List α, L.length = n ∧ ∀ k, k < n → ∃ a, L[k]? = some a ∧ S k a
 | 0, _ => ⟨[], rfl, fun k h => absurd h (by omega)⟩
 | n + 1, h => by
  obtain ⟨L, hl, hL⟩ := list_of_all n fun k hk => h k (by omega)
  obtain ⟨a, ha⟩ := h n (by omega)
  refine ⟨L ++ [a], by simp [hl], fun k hk => ?_⟩
  rcases Nat.lt_or_ge k n with h1 | h1
  ·obtain ⟨b, hb, hs⟩ := hL k h1
   exact ⟨b, by rw [List.getElem?_append_left (by omega)]; exact hb, hs⟩
  ·obtain rfl : k = n := by omega
   exact ⟨a, by rw [List.getElem?_append_right (by omega), hl]; simp, ha⟩
section
variable {H : Type} {enc : TypeId × Value → H} {P : Program} {W : World}
theorem open_rowsG {α : Type} (R : Lay α) {T E : TypeId} {fuel : Nat} {cs : List Value} {x : DataW H × List MemPlace} (hT : P.underlying T = some (.slice E)) (hC : P.cellsOf E = R.s) (q : α → Prop)
  (hread : ∀ fuel cs x, DataW.trod enc P W 0 (fun _ => true) true fuel E cs = some x → ∃ a, cs = R.cel a ∧ q a)
  (hf : DataW.trod enc P W 0 (fun _ => true) true fuel T cs = some x) :
  ∃ A len cap L, cs = [.slice A len cap] ∧ L.length = len ∧ len ≤ 9223372036854775807 ∧ RowAt R W A L ∧ ∀ a ∈ L, q a := by
 rcases open_slice hT hf with ⟨hcs, -⟩ | ⟨a, len, cap, m, n, D, Pl, hcs, -, hl, hm, hmm, -, hx⟩
 ·exact ⟨none, 0, 0, [], hcs, rfl, by omega, RowAt.nil, fun a ha => by cases ha⟩
 ·simp only [if_true] at hmm
  subst hmm
  unfold maxLen at hm
  have key : ∀ k, k < len → ∃ y : α, (∀ j v, (R.cel y)[j]? = some v → W.cell? (a.add (k * R.s + j)) = some v) ∧ q y := by
   intro k hk
   obtain ⟨cs', h1, h2⟩ := hx k (by omega)
   rw [hC] at h1
   obtain ⟨_, hlen, hcell⟩ := World.cells?_some h1
   obtain ⟨y, rfl, hq⟩ := hread _ _ _ h2
   refine ⟨y, fun j v hj => ?_, hq⟩
   have hjl : j < (R.cel y).length := (List.getElem?_eq_some_iff.1 hj).1
   have h4 := hcell j (by rw [R.len] at hjl; omega)
   rw [add_add] at h4
   rw [h4, hj]
  obtain ⟨L, hLl, hL⟩ := list_of_all len key
  obtain ⟨b, off, spot⟩ := a
  refine ⟨_, len, _, L, hcs, hLl, by omega, fun h0 => ?_, fun y hy => ?_⟩
  ·rw [hLl] at h0
   obtain ⟨y0, hy0, hc0, -⟩ := hL 0 h0
   have hz0 := hc0 0 _ (List.getElem?_eq_getElem (by rw [R.len]; exact R.pos))
   have hspot : spot = none := by simpa [Addr.add] using World.cell?_spot hz0
   subst hspot
   have hlt : b < W.heap.size := by
    rcases Nat.lt_or_ge b W.heap.size with hlt | hge
    ·exact hlt
    ·unfold World.cell? at hz0
     rw [show (Addr.add ⟨b, off, none⟩ (0 * R.s + 0)).block = b from by rw [block_add], Array.getElem?_eq_none hge] at hz0
     simp at hz0
   refine ⟨b, off, rfl, hlt, fun j v hj => ?_⟩
   have hjl : j < len * R.s := by
    rw [← hLl, ← R.all_len]
    exact (List.getElem?_eq_some_iff.1 hj).1
   have hs := R.pos
   have hi : j / R.s < len := Nat.div_lt_of_lt_mul (by rw [Nat.mul_comm]; exact hjl)
   obtain ⟨y, hy, hc, -⟩ := hL (j / R.s) hi
   have hr : j % R.s < R.s := Nat.mod_lt _ hs
   have he : j / R.s * R.s + j % R.s = j := by rw [Nat.mul_comm]; exact Nat.div_add_mod _ _
   have h5 := hc (j % R.s) v (by rw [← R.get L (j / R.s) y hy _ hr, he]; exact hj)
   rw [he, Go.WideShapes.add_plain] at h5
   exact h5
  ·obtain ⟨k, hk⟩ := List.getElem?_of_mem hy
   have hkl : k < len := by rw [← hLl]; exact (List.getElem?_eq_some_iff.1 hk).1
   obtain ⟨z, hz, -, hq⟩ := hL k hkl
   rw [hk] at hz
   injection hz with hz
   subst hz
   exact hq
end
theorem cells3R {cs : List Value} (h : cs.length = 3) : ∃ c0 c1 c2, cs = [c0, c1, c2] := by
 match cs, h with
 | [c0, c1, c2], _ => exact ⟨c0, c1, c2, rfl⟩
structure EtyW (x : Ety) : Prop where
 id : (Lit.int .i64 x.id).wf = true
 ent : (Lit.int .i64 x.ent).wf = true
 day : (Lit.int .i64 x.day).wf = true
 kind : (Lit.int .i64 x.kind).wf = true
 of_ : (Lit.int .i64 x.of_).wf = true
section
variable {H : Type} {enc : TypeId × Value → H} {W : World}
set_option maxRecDepth 100000 in
theorem open_stpC {fuel : Nat} {cs : List Value} {x : DataW H × List MemPlace} (hf : DataW.trod enc Tryz.prog W 0 (fun _ => true) true fuel 73 cs = some x) : ∃ a : Stp, cs = stpC a ∧ okStp a := by
 obtain ⟨xs, n', -, -, hlen, hxl, hff⟩ := DataW.trod_struct Tryz.underlying73 hf
 have hC : Tryz.prog.cellsOf 73 = 3 := by kernel_rfl
 rw [hC] at hlen
 obtain ⟨c0, c1, c2, e7⟩ := cells3R hlen
 have hxl' : xs.length = 3 := hxl
 have hget : ∀ i, i < 3 → ∃ y, xs[i]? = some y := fun i hi => ⟨_, List.getElem?_eq_getElem (by omega)⟩
 have kb : Tryz.prog.cellsOf 4 = 1 := by kernel_rfl
 have ki : Tryz.prog.cellsOf 3 = 1 := by kernel_rfl
 have h0 : DataW.trod enc Tryz.prog W 0 (fun _ => true) true n' 3 ((cs.drop 0).take (Tryz.prog.cellsOf 3)) = xs[0]? := hff 0 _ rfl
 obtain ⟨y0, e0⟩ := hget 0 (by omega)
 rw [e0, ki, e7] at h0
 have h1 : DataW.trod enc Tryz.prog W 0 (fun _ => true) true n' 3 ((cs.drop 1).take (Tryz.prog.cellsOf 3)) = xs[1]? := hff 1 _ rfl
 obtain ⟨y1, e1⟩ := hget 1 (by omega)
 rw [e1, ki, e7] at h1
 have h2 : DataW.trod enc Tryz.prog W 0 (fun _ => true) true n' 4 ((cs.drop 2).take (Tryz.prog.cellsOf 4)) = xs[2]? := hff 2 _ rfl
 obtain ⟨y2, e2⟩ := hget 2 (by omega)
 rw [e2, kb, e7] at h2
 obtain ⟨z0, q0, -, w0⟩ := DataW.trod_int Tryz.underlying3 h0
 have a0 : c0 = .int .i64 z0 := by simpa using q0
 obtain ⟨z1, q1, -, w1⟩ := DataW.trod_int Tryz.underlying3 h1
 have a1 : c1 = .int .i64 z1 := by simpa using q1
 obtain ⟨z2, q2, -⟩ := DataW.trod_bool Tryz.underlying4 h2
 have a2 : c2 = .bool z2 := by simpa using q2
 subst a0 a1 a2
 exact ⟨⟨z0, z1, z2⟩, e7, w0, w1⟩
set_option maxRecDepth 100000 in
theorem open_etyC {fuel : Nat} {cs : List Value} {x : DataW H × List MemPlace} (hf : DataW.trod enc Tryz.prog W 0 (fun _ => true) true fuel 46 cs = some x) : ∃ a : Ety × List Lnk, cs = etyC a.1 ∧ EtyK W a.1 a.2 ∧ a.1.n ≤ 9223372036854775807 ∧ a.1.txt.size ≤ maxLen ∧ EtyW a.1 := by
 obtain ⟨xs, n', -, -, hlen, hxl, hff⟩ := DataW.trod_struct Tryz.underlying46 hf
 have hC : Tryz.prog.cellsOf 46 = 7 := by kernel_rfl
 rw [hC] at hlen
 obtain ⟨c0, c1, c2, c3, c4, c5, c6, e7⟩ := cellsE7 hlen
 have hxl' : xs.length = 7 := hxl
 have hget : ∀ i, i < 7 → ∃ y, xs[i]? = some y := fun i hi => ⟨_, List.getElem?_eq_getElem (by omega)⟩
 have ki : Tryz.prog.cellsOf 3 = 1 := by kernel_rfl
 have kl : Tryz.prog.cellsOf 44 = 1 := by kernel_rfl
 have ks : Tryz.prog.cellsOf 9 = 1 := by kernel_rfl
 have h0 : DataW.trod enc Tryz.prog W 0 (fun _ => true) true n' 3 ((cs.drop 0).take (Tryz.prog.cellsOf 3)) = xs[0]? := hff 0 _ rfl
 obtain ⟨y0, e0⟩ := hget 0 (by omega)
 rw [e0, ki, e7] at h0
 have h1 : DataW.trod enc Tryz.prog W 0 (fun _ => true) true n' 3 ((cs.drop 1).take (Tryz.prog.cellsOf 3)) = xs[1]? := hff 1 _ rfl
 obtain ⟨y1, e1⟩ := hget 1 (by omega)
 rw [e1, ki, e7] at h1
 have h2 : DataW.trod enc Tryz.prog W 0 (fun _ => true) true n' 3 ((cs.drop 2).take (Tryz.prog.cellsOf 3)) = xs[2]? := hff 2 _ rfl
 obtain ⟨y2, e2⟩ := hget 2 (by omega)
 rw [e2, ki, e7] at h2
 have h3 : DataW.trod enc Tryz.prog W 0 (fun _ => true) true n' 3 ((cs.drop 3).take (Tryz.prog.cellsOf 3)) = xs[3]? := hff 3 _ rfl
 obtain ⟨y3, e3⟩ := hget 3 (by omega)
 rw [e3, ki, e7] at h3
 have h4 : DataW.trod enc Tryz.prog W 0 (fun _ => true) true n' 3 ((cs.drop 4).take (Tryz.prog.cellsOf 3)) = xs[4]? := hff 4 _ rfl
 obtain ⟨y4, e4⟩ := hget 4 (by omega)
 rw [e4, ki, e7] at h4
 have h5 : DataW.trod enc Tryz.prog W 0 (fun _ => true) true n' 9 ((cs.drop 5).take (Tryz.prog.cellsOf 9)) = xs[5]? := hff 5 _ rfl
 obtain ⟨y5, e5⟩ := hget 5 (by omega)
 rw [e5, ks, e7] at h5
 have h6 : DataW.trod enc Tryz.prog W 0 (fun _ => true) true n' 44 ((cs.drop 6).take (Tryz.prog.cellsOf 44)) = xs[6]? := hff 6 _ rfl
 obtain ⟨y6, e6⟩ := hget 6 (by omega)
 rw [e6, kl, e7] at h6
 obtain ⟨z0, q0, -, w0⟩ := DataW.trod_int Tryz.underlying3 h0
 have a0 : c0 = .int .i64 z0 := by simpa using q0
 obtain ⟨z1, q1, -, w1⟩ := DataW.trod_int Tryz.underlying3 h1
 have a1 : c1 = .int .i64 z1 := by simpa using q1
 obtain ⟨z2, q2, -, w2⟩ := DataW.trod_int Tryz.underlying3 h2
 have a2 : c2 = .int .i64 z2 := by simpa using q2
 obtain ⟨z3, q3, -, w3⟩ := DataW.trod_int Tryz.underlying3 h3
 have a3 : c3 = .int .i64 z3 := by simpa using q3
 obtain ⟨z4, q4, -, w4⟩ := DataW.trod_int Tryz.underlying3 h4
 have a4 : c4 = .int .i64 z4 := by simpa using q4
 obtain ⟨z5, q5, -, bt⟩ := DataW.trod_string Tryz.underlying9 h5
 have a5 : c5 = .string z5 := by simpa using q5
 obtain ⟨A, n, c, X, q6, lx, hmx, hz, ok⟩ := open_wlineK h6
 have a6 : c6 = .slice A n c := by simpa using q6
 subst a0 a1 a2 a3 a4 a5 a6
 exact ⟨(⟨z0, z1, z2, z3, z4, z5, A, n, c⟩, X), e7, ⟨lx, hz, ok⟩, hmx, bt, ⟨w0, w1, w2, w3, w4⟩⟩
set_option maxRecDepth 100000 in
theorem open_ietyW {b0 : Nat} {v : Value} {d : DataW H} {p : List MemPlace} (hval : Value.okWide Tryz.prog W .any b0 46 v) (h : DataW.Trod enc Tryz.prog W 0 (fun _ => true) true 46 v d p) :
  ∃ x X, v = etyV x ∧ EtyK W x X ∧ x.n ≤ 9223372036854775807 ∧ x.txt.size ≤ maxLen ∧ EtyW x := by
 obtain ⟨cs, rfl, hsz⟩ := okWide_struct Tryz.underlying46 hval
 obtain ⟨fuel, hf⟩ := h
 have hcs : (Value.agg cs).cells.toList = cs.toList := by simp [Value.cells]
 rw [hcs] at hf
 obtain ⟨a, ha, hk, hn, ht, hw⟩ := open_etyC hf
 exact ⟨a.1, a.2, by rw [← Array.toArray_toList (xs := cs), ha]; rfl, hk, hn, ht, hw⟩
set_option maxRecDepth 100000 in
theorem open_istps {b0 : Nat} {v : Value} {d : DataW H} {p : List MemPlace} (hval : Value.okWide Tryz.prog W .any b0 62 v) (h : DataW.Trod enc Tryz.prog W 0 (fun _ => true) true 62 v d p) :
  ∃ A len c S, v = .slice A len c ∧ S.length = len ∧ len ≤ 9223372036854775807 ∧ RowAt lyS W A S ∧ ∀ s ∈ S, okStp s := by
 obtain ⟨a0, len, cap, rfl⟩ := okWide_slice Tryz.underlying62 hval
 obtain ⟨fuel, hf⟩ := h
 obtain ⟨A, len', c, S, hcs, hl, hm, hr, hq⟩ := open_rowsG lyS Tryz.underlying62 (by kernel_rfl) okStp (fun _ _ _ h => open_stpC h) hf
 simp [Value.cells] at hcs
 obtain ⟨rfl, rfl, rfl⟩ := hcs
 exact ⟨_, _, _, S, rfl, hl, hm, hr, hq⟩
end
section
variable {H : Type} {enc : TypeId × Value → H} {P : Program} {w : World} {r : Reach} {b0 base : Nat} {t e : TypeId} {k : IntKind} {spare : Nat → Bool} {held : Bool} {v : Value} {d : DataW H} {ps : List MemPlace}
end
open Go.RowKit Go.Maps
structure LS0 (w2 : World) (j : LD) (g : Grp) (z s9 : Nat) (K KR : LkL) (A : Option Addr) (c : Nat) (W : World) : Prop where
 lk : LK W j z K
 bx : Wh 69 W s9 (rlC g (.slice A KR.length c))
 row : RowAt lyP W A KR
 le : KR.length ≤ c
 far : ∀ b o, A = some ⟨b, o, none⟩ → s9 < b
 low : Below w2.heap.size w2 W
 jb : j.b < s9 ∧ j.bm < s9
def LSt (w2 : World) (j : LD) (g : Grp) (z s9 : Nat) (K KR : LkL) (A : Option Addr) (c sr : Nat) (s : Stp) (W : World) : Prop := LS0 w2 j g z s9 K KR A c W ∧ Wh 73 W sr (stpC s)
theorem wh_map {W W' : World} {t : TypeId} {b bm : Nat} {cs : List Value} (h : Wh t W b cs) (hm : ∃ es k, W.heap[bm]? = some (.map es k)) (ho : Only (fun i => i = bm) W W') : Wh t W' b cs :=
 h.only ho (fun e => by
  obtain ⟨es, k, h4⟩ := hm
  have h3 := h.blk
  have e' : b = bm := e
  rw [e', h4] at h3
  cases h3)
theorem row_map {W W' : World} {A : Option Addr} {K : LkL} {bm : Nat} (h : RowAt lyP W A K) (hm : ∃ es k, W.heap[bm]? = some (.map es k)) (ho : Only (fun i => i = bm) W W') : RowAt lyP W' A K := by
 intro h0
 obtain ⟨b, off, e, hlt, hr⟩ := h h0
 have hne : b ≠ bm := fun e2 => by
  obtain ⟨es, k, h4⟩ := hm
  have h5 := hr 0 ((lyP.all K).getD 0 undef) (by
   have h6 := lyP.all_len K
   have h7 : 0 < (lyP.all K).length := by rw [h6]; exact Nat.mul_pos h0 lyP.pos
   rw [List.getD_eq_getElem?_getD, List.getElem?_eq_getElem h7]; rfl)
  rw [e2] at h5
  simp [World.cell?, h4] at h5
 exact ⟨b, off, e, Nat.lt_of_lt_of_le hlt ho.size, fun j v hj => (World.cell?_of_block (ho.blk b hlt hne)).trans (hr j v hj)⟩
section
variable {w2 W W' : World} {j : LD} {g : Grp} {z z' s9 sr : Nat} {K K' KR KR' : LkL} {A A' : Option Addr} {c c' : Nat} {s : Stp}
theorem LS0.up (h : LS0 w2 j g z s9 K KR A c W) (hb : Below W.heap.size W W') : LS0 w2 j g z s9 K KR A c W' := ⟨h.lk.up hb, h.bx.up hb, h.row.up hb, h.le, h.far, h.low.trans (hb.mono h.low.size), h.jb⟩
theorem LSt.up (h : LSt w2 j g z s9 K KR A c sr s W) (hb : Below W.heap.size W W') : LSt w2 j g z s9 K KR A c sr s W' := ⟨h.1.up hb, h.2.up hb⟩
theorem LSt.did (h : LSt w2 j g z s9 K KR A c sr s W) (h2 : LK W' j z' K') (ho : Only (fun i => i = j.bm) W W') (hbm : w2.heap.size ≤ j.bm) : LSt w2 j g z' s9 K' KR A c sr s W' :=
 ⟨⟨h2, wh_map h.1.bx h.1.lk.mp.isMap ho, row_map h.1.row h.1.lk.mp.isMap ho, h.1.le, h.1.far, h.1.low.trans (ho.below (fun i hi => (by have h9 : i = j.bm := hi; omega)) h.1.low.size), h.1.jb⟩, wh_map h.2 h.1.lk.mp.isMap ho⟩
theorem LSt.put (h : LSt w2 j g z s9 K KR A c sr s W) (hr : RowAt lyP W A' KR') (hle : KR'.length ≤ c') (hfar : ∀ b o, A' = some ⟨b, o, none⟩ → s9 < b) (hw : Wh 69 W' s9 (rlC g (.slice A' KR'.length c'))) (ho : Only (fun i => i = s9) W W') (h9 : w2.heap.size ≤ s9) (hsr : s9 < sr) : LSt w2 j g z s9 K KR' A' c' sr s W' := by
 refine ⟨⟨h.1.lk.only ho (fun e => ?_) (fun e => ?_), hw, fun h0 => ?_, hle, hfar, h.1.low.trans (ho.below (fun i hi => (by have h10 : i = s9 := hi; omega)) h.1.low.size), h.1.jb⟩, h.2.only ho (fun e => ?_)⟩
 ·have e1 : j.b = s9 := e
  have := h.1.jb.1; omega
 ·have e1 : j.bm = s9 := e
  have := h.1.jb.2; omega
 ·obtain ⟨b, off, e, hlt, hc⟩ := hr h0
  have hne : b ≠ s9 := by have := hfar b off e; omega
  exact ⟨b, off, e, Nat.lt_of_lt_of_le hlt ho.size, fun i v hi => (World.cell?_of_block (ho.blk b hlt hne)).trans (hc i v hi)⟩
 ·have e1 : sr = s9 := e
  omega
end
def DoK (D : World → Prop) (w w' : World) : Prop := w.heap.size ≤ w'.heap.size ∧ (D w → D w')
def dkF (D : World → Prop) (b : Value) : AK.Fact (DoK D) := ⟨fun v W => v = b ∧ D W, fun _ _ _ h ⟨h1, h2⟩ => ⟨h1, h.2 h2⟩⟩
def DoJ (D0 D : World → Prop) (E : Int) (k : Nat) (l : List Value) (W : World) : Prop := (k = 0 → D0 W) ∧ (k = 1 → D W ∧ ∀ v, l = [v] → v = .int .i64 E)
def liP (K : LkL) (v : Value) (W : World) : Prop := ∃ A c, v = .slice A K.length c ∧ RowAt lyP W A K
def liF (K : LkL) : AK.Fact Below0 := ⟨liP K, fun _ _ _ hb ⟨A, c, h1, h2⟩ => ⟨A, c, h1, h2.up hb⟩⟩
def lwSa (j : LD) (s9 sr : Nat) (q : Stp) (E : Int) (b0 : Bool) (RW : Value) (D : World → Prop) : List (Nat × AK.Fact (DoK D)) := [(81, AK.Fact.is (.pointer (some ⟨j.b, 0, none⟩))), (82, AK.Fact.is (stpV q)), (83, AK.Fact.triv), (84, AK.Fact.is (.int .i64 E)), (85, dkF D (.bool false)), (86, dkF D (.bool false)), (87, AK.Fact.is (.pointer (some ⟨j.b, 0, none⟩))), (88, AK.Fact.is (.pointer (some ⟨sr, 0, none⟩))), (89, AK.Fact.is (.int .i64 q.e)), (90, AK.Fact.is (.pointer (some ⟨sr, 1, none⟩))), (91, AK.Fact.is (.int .i64 q.p)), (92, AK.Fact.is (.bool b0)), (93, AK.Fact.is (RW)), (94, AK.Fact.is (.pointer (some ⟨sr, 0, none⟩))), (95, AK.Fact.is (.int .i64 q.e)), (96, AK.Fact.is (.pointer (some ⟨sr, 1, none⟩))), (97, AK.Fact.is (.int .i64 q.p)), (98, AK.Fact.is (.bool b0)), (99, AK.Fact.is (.bool false)), (100, AK.Fact.is (.bool false))]
def lwSb (j : LD) (s0 s9 c2 : Nat) (A2 : Option Addr) (K2 : LkL) (DD CH : Int) (b1 : Bool) (RW XV : Value) : List (Nat × AK.Fact (Below0)) := [(115, AK.Fact.is (.int .i64 DD)), (116, AK.Fact.is (.int .i64 DD)), (117, AK.Fact.is (.bool false)), (118, AK.Fact.is (.bool false)), (119, AK.Fact.is (.bool b1)), (120, AK.Fact.is (.bool b1)), (121, AK.Fact.is (.bool false)), (122, AK.Fact.is (.bool false)), (123, AK.Fact.is (.bool false)), (124, AK.Fact.is (.pointer (some ⟨j.b, 0, none⟩))), (125, AK.Fact.is (XV)), (126, AK.Fact.is (.int .i64 CH)), (127, AK.Fact.is (RW)), (128, AK.Fact.is (XV)), (129, AK.Fact.is (.int .i64 CH)), (130, AK.Fact.is (.bool false)), (131, AK.Fact.is (.bool false)), (132, AK.Fact.is (.bool false)), (133, AK.Fact.is (.pointer (some ⟨j.b, 0, none⟩))), (134, liF K2), (135, liF K2), (136, AK.Fact.is (.pointer (some ⟨s9, 21, none⟩))), (137, AK.Fact.is (.slice A2 K2.length c2)), (138, AK.Fact.is (.bool true)), (139, AK.Fact.is (.bool false)), (140, AK.Fact.is (.bool false))]
def lwSc (j : LD) (s0 s9 : Nat) (CH : Int) (RW XV : Value) : List (Nat × AK.Fact (Below0)) := [(142, AK.Fact.is (.pointer (some ⟨j.b, 0, none⟩))), (143, AK.Fact.is (XV)), (144, AK.Fact.is (.int .i64 CH)), (145, AK.Fact.is (RW)), (146, AK.Fact.is (XV)), (147, AK.Fact.is (.int .i64 CH)), (148, AK.Fact.is (.bool true)), (6, AK.Fact.is (.bool true))]
theorem wp_load_if_ {P : Program} {o : Oper} {a : Act} {w : World} {K : Act → World → Prop} {Q : Exit → Act → World → Prop} (ty : TypeId) (x : Operand) (hop : o.op = .load ty x) (p : Value) (hx : a.eval x = p) (V : Value)
  (hl : (Instr.loadAt ty p).run P w = .ok V w) (h : K (a.put o.dst V) w) : o.wp P a w K Q := wp_load_is ty x hop p hx V hl h
set_option maxRecDepth 100000 in
set_option maxHeartbeats 12800000 in
theorem law_lkscr (g : Grp) (L : List Acc) (G : List Ent) (A : Option Addr) (n c : Nat) (S : List Stp) (x : Ety) (X : List Lnk) (w : World)  (hk : GrK w g L G) (hw : GrW g L G) (hmx : g.m ≤ 9223372036854775807) (hn : S.length = n) (hnm : n ≤ 9223372036854775807) (hS : RowAt lyS w A S) (hok : ∀ s ∈ S, okStp s) (hx : EtyK w x X) (hxn : x.n ≤ 9223372036854775807) (hxt : x.txt.size ≤ maxLen) (hxw : EtyW x) :
  Calls Tryz.prog 7 #[grpV g, .slice A n c, etyV x] w fun e w' => e = .returned (.bool true) ∧ Below w.heap.size w w' := by
 have HAW := Lib.hid lkawake_any
 have HFW := Lib.hid (fun W (h : EntsAt W g.E G) => rfew10_is g G W h hk.lg hmx)
 have HRV := Lib.hid (fun (hs : Sm g G) W (h : GrK W g L G) => rvalid10_any g L G W h hs hw)
 have HGW := Lib.hid hw
 have HXW := Lib.hid hxw.ent
 have HN0 := Lib.hid (fun (hs : Sm g G) W (h : GrK W g L G) => lnew_any g L G W h hs hw)
 have HR0 := Lib.hid (fun (hs : Sm g G) W (h : GrK W g L G) => rnew13_any g L G W h hs hw)
 obtain ⟨s0, hs0⟩ : ∃ s0, w.heap.size = s0 := ⟨_, rfl⟩
 obtain ⟨w2, hw2⟩ : ∃ w2, (w.alloc (.cells #[.string g.cur, .int .i64 g.cy, .int .i64 g.cm, .int .i64 g.cp, .slice g.A g.n g.c, .int .i64 g.r0, .int .i64 g.r1, .int .i64 g.r2, .int .i64 g.r3, .int .i64 g.r4, .int .i64 g.r5, .int .i64 g.r6, .int .i64 g.r7, .int .i64 g.r8, .int .i64 g.r9, .int .i64 g.r10, .int .i64 g.r11, .int .i64 g.r12, .int .i64 g.r13, .int .i64 g.r14, .slice g.E g.m g.d] 29)).alloc (.cells #[.int .i64 x.id, .int .i64 x.ent, .int .i64 x.day, .int .i64 x.kind, .int .i64 x.of_, .string x.txt, .slice x.A x.n x.c] 46) = w2 := ⟨_, rfl⟩
 have HGB : Hid (Wh 29 w2 s0 (grpC g)) := Lib.hid (by rw [← hw2, ← hs0]; exact (Wh.new w 29 (grpC g)).up (below_alloc_new _))
 have HXB : Hid (Wh 46 w2 (s0 + 1) [.int .i64 x.id, .int .i64 x.ent, .int .i64 x.day, .int .i64 x.kind, .int .i64 x.of_, .string x.txt, .slice x.A x.n x.c]) := Lib.hid (by
  rw [← hw2, ← hs0]
  have h9 := Wh.new (w.alloc (.cells #[.string g.cur, .int .i64 g.cy, .int .i64 g.cm, .int .i64 g.cp, .slice g.A g.n g.c, .int .i64 g.r0, .int .i64 g.r1, .int .i64 g.r2, .int .i64 g.r3, .int .i64 g.r4, .int .i64 g.r5, .int .i64 g.r6, .int .i64 g.r7, .int .i64 g.r8, .int .i64 g.r9, .int .i64 g.r10, .int .i64 g.r11, .int .i64 g.r12, .int .i64 g.r13, .int .i64 g.r14, .slice g.E g.m g.d] 29)) 46 [.int .i64 x.id, .int .i64 x.ent, .int .i64 x.day, .int .i64 x.kind, .int .i64 x.of_, .string x.txt, .slice x.A x.n x.c]
  rw [World.size_alloc] at h9
  exact h9)
 have HB2 : Hid (Below w.heap.size w w2) := Lib.hid (by rw [← hw2]; exact below_new (below_alloc_new _) _)
 have HKC := Lib.hid (hk.up HB2.out)
 have HSC := Lib.hid (hS.up HB2.out)
 have HOK := Lib.hid hok
 have HS0 := Lib.hid hs0
 have HNL := Lib.hid hn
 have HBC := Lib.hid (Below.refl w2.heap.size w2)
 obtain ⟨GV, hGV⟩ : ∃ GV, GV = grpV g := ⟨_, rfl⟩
 have HLG : Hid (∀ w9, Below w2.heap.size w2 w9 → (Instr.loadAt 29 (.pointer (some ⟨s0, 0, none⟩))).run Tryz.prog w9 = .ok GV w9) := Lib.hid (fun w9 h9 => by rw [hGV, grpV_is]; exact (HGB.out.up h9).rg.load 0 29 (grpC g) rfl _ Tryz.underlying29 rfl (by kernel_rfl))
 rw [← hGV] at HFW HN0 HR0
 clear HRV
 have HGV := Lib.hid hGV
 clear hk hGV hw hS hok hn hmx
 have HM1 : True := trivial
 have HM2 : True := trivial
 have HM3 : True := trivial
 have HM4 : True := trivial
 have HM5 : True := trivial
 have HM6 : True := trivial
 cases hf : few10 g G
 ·rw [hf] at HFW
  clear hf
  go_enter Tryz.func7, Tryz.ntmps7
  go_wp2_with (first
   | (go_at_call 27; refine (HAW.out _).mono ?_; rintro e w3 ⟨rfl, hb⟩; have hB3 := Lib.hid (HBC.out.trans (hb.mono HBC.out.size)); clear hb HBC; have HBC := hB3; clear hB3)
   | (clear HM1; refine wpList_load_if (by rfl) 29 _ rfl (.pointer (some ⟨s0, 0, none⟩)) rfl GV (HLG.out _ HBC.out) ?_)
   | (go_at_call 28; refine (HFW.out _ (HKC.out.up HBC.out).he).mono ?_; rintro e w3 ⟨rfl, hb⟩; have hB3 := Lib.hid (HBC.out.trans (hb.mono HBC.out.size)); clear hb HBC; have HBC := hB3; clear hB3))
  go_ret
  exact ⟨by first | rfl | simp, (by have h9 := HB2.out.trans (HBC.out.mono HB2.out.size); first | exact h9 | (rw [← HS0.out]; exact h9))⟩
 ·rw [hf] at HFW
  have HSM := Lib.hid (few_sm hf)
  clear hf
  by_cases hl : n ≤ 30
  ·have hlz : decide ((n : Int) > 30) = false := decide_eq_false (by omega)
   have hly : decide ((30 : Int) < (n : Int)) = false := decide_eq_false (by omega)
   have HL30 := Lib.hid hl
   have HNW := Lib.hid (HN0.out HSM.out)
   have HRN := Lib.hid (HR0.out HSM.out)
   go_enter Tryz.func7, Tryz.ntmps7
   cases hv : grpR g L G
   ·rw [hv] at HRN
    have hgp := (grp_eq g L G).trans hv
    have HNQ : Hid (∀ W e w', LNewQ g L G W e w' → e = .returned (.tuple #[.pointer none, .int .i64 1])) := Lib.hid (fun W e w' h => by unfold LNewQ at h; rw [hgp] at h; simpa using h)
    clear hv hgp
    go_wp2_with (first
     | (go_at_call 27; refine (HAW.out _).mono ?_; rintro e w3 ⟨rfl, hb⟩; have hB3 := Lib.hid (HBC.out.trans (hb.mono HBC.out.size)); clear hb HBC; have HBC := hB3; clear hB3)
     | (clear HM1; refine wpList_load_if (by rfl) 29 _ rfl (.pointer (some ⟨s0, 0, none⟩)) rfl GV (HLG.out _ HBC.out) ?_)
     | (go_at_call 28; refine (HFW.out _ (HKC.out.up HBC.out).he).mono ?_; rintro e w3 ⟨rfl, hb⟩; have hB3 := Lib.hid (HBC.out.trans (hb.mono HBC.out.size)); clear hb HBC; have HBC := hB3; clear hB3)
     | (clear HM2; refine wpList_load_is rfl 29 _ rfl (.pointer (some ⟨s0, 0, none⟩)) rfl GV (HLG.out _ HBC.out) ?_)
     | (go_at_call 29; refine (HNW.out _ (HKC.out.up HBC.out)).mono ?_; rintro e w3 ⟨hq, hb⟩; obtain rfl := HNQ.out _ _ _ hq; clear hq; have hB3 := Lib.hid (HBC.out.trans (hb.mono HBC.out.size)); clear hb HBC; have HBC := hB3; clear hB3)
     | (clear HM3; refine wpList_load_is rfl 29 _ rfl (.pointer (some ⟨s0, 0, none⟩)) rfl GV (HLG.out _ HBC.out) ?_)
     | (go_at_call 30; refine (HRN.out _ (HKC.out.up HBC.out)).mono ?_; rintro e w3 ⟨rfl, hb⟩; have hB3 := Lib.hid (HBC.out.trans (hb.mono HBC.out.size)); clear hb HBC; have HBC := hB3; clear hB3; have HS8 : Hid (w2.heap.size ≤ w3.heap.size) := Lib.hid HBC.out.size)
     | (refine wpList_store_wh rfl 69 _ _ rfl w3.heap.size (by rfl) 69 (rlC gr0 (.slice none 0 0)) (rlC gr0 (.slice none 0 0)) rfl (Wh.new w3 69 (rlC gr0 (.slice none 0 0))) rfl (by kernel_rfl) (by kernel_rfl) ?_; intro w8 hr8 ho8 hz8; have hb := only_new (by first | exact ho8.out); have hB3 := Lib.hid (HBC.out.trans (hb.mono HBC.out.size)); clear hb HBC; have HBC := hB3; clear hB3; clear hr8 ho8 hz8))
    go_ret
    exact ⟨by first | rfl | simp, (by have h9 := HB2.out.trans (HBC.out.mono HB2.out.size); first | exact h9 | (rw [← HS0.out]; exact h9))⟩
   ·rw [hv] at HRN
    have HV : Hid (grpP g L G = true) := Lib.hid ((grp_eq g L G).trans hv)
    have HNQ : Hid (∀ W e w', LNewQ g L G W e w' → LNew g W e w') := Lib.hid (fun W e w' h => by unfold LNewQ at h; rw [HV.out, if_pos rfl] at h; exact h)
    clear hv
    go_wp2_with (first
     | (go_at_call 27; refine (HAW.out _).mono ?_; rintro e w3 ⟨rfl, hb⟩; have hB3 := Lib.hid (HBC.out.trans (hb.mono HBC.out.size)); clear hb HBC; have HBC := hB3; clear hB3)
     | (clear HM1; refine wpList_load_if (by rfl) 29 _ rfl (.pointer (some ⟨s0, 0, none⟩)) rfl GV (HLG.out _ HBC.out) ?_)
     | (go_at_call 28; refine (HFW.out _ (HKC.out.up HBC.out).he).mono ?_; rintro e w3 ⟨rfl, hb⟩; have hB3 := Lib.hid (HBC.out.trans (hb.mono HBC.out.size)); clear hb HBC; have HBC := hB3; clear hB3)
     | (clear HM2; refine wpList_load_is rfl 29 _ rfl (.pointer (some ⟨s0, 0, none⟩)) rfl GV (HLG.out _ HBC.out) ?_)
     | (go_at_call 29; refine (HNW.out _ (HKC.out.up HBC.out)).mono ?_; rintro e w3 ⟨hq, hb⟩; obtain ⟨jb, jm, rfl, hj, hjb, hjm⟩ := HNQ.out _ _ _ hq; have HJ3 := Lib.hid hj; have HBM : Hid (w2.heap.size ≤ jm) := Lib.hid (Nat.le_trans HBC.out.size hjm); clear hq hj hjb hjm; have hB3 := Lib.hid (HBC.out.trans (hb.mono HBC.out.size)); clear hb HBC; have HBC := hB3; clear hB3)
     | (clear HM3; refine wpList_load_is rfl 29 _ rfl (.pointer (some ⟨s0, 0, none⟩)) rfl GV (HLG.out _ HBC.out) ?_)
     | (go_at_call 30; refine (HRN.out _ (HKC.out.up HBC.out)).mono ?_; rintro e w7 ⟨rfl, hb⟩; have HJ7 := Lib.hid (HJ3.out.up hb); have hB3 := Lib.hid (HBC.out.trans (hb.mono HBC.out.size)); clear hb HBC; have HBC := hB3; clear hB3)
     | (refine wpList_store_wh rfl 69 _ _ rfl w7.heap.size (by rfl) 69 (rlC gr0 (.slice none 0 0)) (rlC g (.slice none 0 0)) rfl (Wh.new w7 69 (rlC gr0 (.slice none 0 0))) rfl (by kernel_rfl) (by kernel_rfl) ?_; intro w8 hr8 ho8 hz8; have HR8 := Lib.hid hr8.out; have HB8 : Hid (Below w7.heap.size w7 w8) := Lib.hid (only_new ho8.out); clear hr8 ho8 hz8))
    obtain ⟨s9, hs9⟩ : ∃ s9, w7.heap.size = s9 := ⟨_, rfl⟩
    obtain ⟨j, hj1, hj2, hj3, hjq⟩ : ∃ j : LD, jb = j.b ∧ jm = j.bm ∧ (⟨jb, (g.m : Int), g.cy, g.cm, g.cp, jm⟩ : LD) = j ∧ (j.n = (g.m : Int) ∧ j.y = g.cy ∧ j.m = g.cm ∧ j.k = g.cp) := ⟨⟨jb, (g.m : Int), g.cy, g.cm, g.cp, jm⟩, rfl, rfl, rfl, rfl, rfl, rfl, rfl⟩
    have HJQ := Lib.hid hjq
    have hj7 := HJ7.out
    rw [hj3] at hj7
    rw [hj2] at HBM
    have HL8 : Hid (LS0 w2 j g 0 s9 [] [] none 0 w8) := Lib.hid ⟨hj7.up HB8.out, by rw [← hs9]; exact HR8.out, RowAt.nil, Nat.zero_le _, (fun b o h => by cases h), HBC.out.trans (HB8.out.mono HBC.out.size), by rw [← hs9]; exact ⟨hj7.box.lt, hj7.mp.lt⟩⟩
    have H9L : Hid (w2.heap.size ≤ s9) := Lib.hid (by rw [← hs9]; exact HBC.out.size)
    have HK30 : Hid (∀ i, (stpsL (g.m : Int) g.cp (S.take i)).length ≤ 30) := Lib.hid (fun i => by have h1 := stpsL_len (g.m : Int) g.cp (S.take i); have h2 := List.length_take_le i S; have h3 := List.length_take (i := i) (l := S); have := HNL.out; have := HL30.out; omega)
    have HLX : Hid (∀ W, Below w2.heap.size w2 W → (Instr.loadAt 46 (.pointer (some ⟨s0 + 1, 0, none⟩))).run Tryz.prog W = .ok (etyV x) W) := Lib.hid (fun W h => (HXB.out.up h).rg.load 0 46 (etyC x) rfl _ Tryz.underlying46 rfl (by kernel_rfl))
    obtain ⟨XV, hXV⟩ : ∃ XV, XV = etyV x := ⟨_, rfl⟩
    rw [← hXV] at HLX
    have HXV := Lib.hid hXV
    rw [hs9]
    subst hj1
    clear hjq hj7 hj3 hj2 HR8 HJ7 HJ3 hXV hs9
    go_loopg [57] n (fun kx s57 wr => ∃ (i : Nat), s57 = .int .i64 (i : Int) ∧ i ≤ n ∧ n - i ≤ kx ∧ Hid (∃ A c, LS0 w2 j g i s9 (stpsL (g.m : Int) g.cp (S.take i)) (stpsL (g.m : Int) g.cp (S.take i)) A c wr))
    case atStart => exact ⟨0, rfl, by omega, by omega, Lib.hid ⟨none, 0, HL8.out⟩⟩
    case round =>
     obtain ⟨i, rfl, hi, hkx, HL⟩ := hrel
     obtain ⟨Aa, ca, hL⟩ := HL.out
     clear HL
     by_cases hlt : i < n
     ·have hltz : (i : Int) < (n : Int) := by omega
      obtain ⟨q, hq⟩ : ∃ q, S[i]? = some q := ⟨_, List.getElem?_eq_getElem (by rw [HNL.out]; exact hlt)⟩
      obtain ⟨bb, off, hA, hbl, hrg⟩ := (HSC.out.up hL.low).at hq
      subst hA
      have HLY : Hid ((Instr.loadAt 73 (.pointer (some ⟨bb, off + i * 3, none⟩))).run Tryz.prog wr = .ok (stpV q) wr) := Lib.hid (run_loadAt_mid wr bb (off + i * 3) 73 (stpC q) _ (fun jj v hv => hrg jj v hv) Tryz.underlying73 rfl (by kernel_rfl))
      have HQK : Hid (okStp q) := Lib.hid (HOK.out q (List.mem_of_getElem? hq))
      obtain ⟨KA, hKA⟩ : ∃ KA, stpsL (g.m : Int) g.cp (S.take i) = KA := ⟨_, rfl⟩
      obtain ⟨K2, hK2⟩ : ∃ K2, stpL (g.m : Int) g.cp KA q = K2 := ⟨_, rfl⟩
      obtain ⟨E, hE⟩ : ∃ E, stpE (g.m : Int) g.cp KA q = E := ⟨_, rfl⟩
      have HKT : Hid (stpsL (g.m : Int) g.cp (S.take (i + 1)) = K2) := Lib.hid (by rw [← hK2, ← hKA, List.take_add_one, hq, ← stpsL_snoc]; rfl)
      have HGA : Hid (GoodL (g.m : Int) g.cp KA ∧ KA.length ≤ 30) := Lib.hid (by rw [← hKA]; exact ⟨stpsL_good _ _ _, HK30.out i⟩)
      have HG2 : Hid (GoodL (g.m : Int) g.cp K2 ∧ K2.length ≤ 30) := Lib.hid (by rw [← HKT.out]; exact ⟨stpsL_good _ _ _, HK30.out (i + 1)⟩)
      rw [hKA] at hL
      have HLS := Lib.hid hL
      have HE : Hid (stpE (g.m : Int) g.cp KA q = E ∧ stpL (g.m : Int) g.cp KA q = K2) := Lib.hid ⟨hE, hK2⟩
      have HIN : Hid (i ≤ 30) := Lib.hid (by have := HL30.out; omega)
      obtain ⟨sr, hsr⟩ : ∃ sr, wr.heap.size = sr := ⟨_, rfl⟩
      have HSR := Lib.hid hsr
      have H9R : Hid (s9 < sr) := Lib.hid (by rw [← hsr]; exact hL.bx.lt)
      have HP0 : True := trivial
      clear hq hrg hbl hL hKA hK2 hE
      go_upto_if 62 with (first
       | (clear HP0; refine wpList_load_is rfl 73 _ rfl (.pointer (some ⟨bb, off + i * 3, none⟩)) rfl (stpV q) HLY.out ?_)
       | (refine wpList_store_wh rfl 73 _ _ rfl sr (by first | rfl | (rw [← HSR.out]; rfl)) 73 [.int .i64 0, .int .i64 0, .bool false] (stpC q) rfl (by rw [← HSR.out]; exact Wh.new wr 73 [.int .i64 0, .int .i64 0, .bool false]) rfl (by kernel_rfl) (by kernel_rfl) ?_; intro w6 hr6 ho6 hz6; have hb6 : Below wr.heap.size wr w6 := only_new (by rw [HSR.out]; exact ho6.out); have HL6 : Hid (LSt w2 j g i s9 KA KA Aa ca sr q w6) := Lib.hid ⟨HLS.out.up hb6, hr6.out⟩; have y0 := hr6.out.at 0 _ rfl; have y1 := hr6.out.at 1 _ rfl; have y2 := hr6.out.at 2 _ rfl; clear hr6 ho6 hz6 hb6))
      have HLR : Hid (∀ W A c (K : LkL), Wh 69 W s9 (rlC g (.slice A K.length c)) → (Instr.loadAt 69 (.pointer (some ⟨s9, 0, none⟩))).run Tryz.prog W = .ok (rlV g (.slice A K.length c)) W) := Lib.hid (fun W A c K h => h.rg.load 0 69 (rlC g (.slice A K.length c)) rfl _ Tryz.underlying69 rfl (by kernel_rfl))
      go_cut [13] from 62 to 80 (fun s13 wx => s13 = .int .i64 E ∧ Hid (∃ A c, LSt w2 j g i s9 KA K2 A c sr q wx))
      case first =>
       obtain ⟨RW, hRW⟩ : ∃ RW, RW = rlV g (.slice Aa KA.length ca) := ⟨_, rfl⟩
       have HLRA : Hid (∀ W, Wh 69 W s9 (rlC g (.slice Aa KA.length ca)) → (Instr.loadAt 69 (.pointer (some ⟨s9, 0, none⟩))).run Tryz.prog W = .ok RW W) := Lib.hid (fun W h => by rw [hRW]; exact HLR.out W Aa ca KA h)
       have HRR : Hid (∀ W, RowAt lyP W Aa KA → Calls Tryz.prog 31 #[RW, .int .i64 q.e, .int .i64 q.p] W fun r w' => RlQ g Aa W.heap.size (remL KA q.k) (remE KA q.k) r w' ∧ Below W.heap.size W w') := Lib.hid (fun W h => by rw [hRW]; exact rrem13_any g Aa ca KA q.e q.p W h (by have := HGA.out.2; omega) HLS.out.le HGA.out.1.asc)
       have HRA : Hid (∀ W, RowAt lyP W Aa KA → Calls Tryz.prog 32 #[RW, .int .i64 q.e, .int .i64 q.p] W fun r w' => RlQ g Aa W.heap.size (addL (g.m : Int) g.cp KA q.k) (addE (g.m : Int) g.cp KA q.k) r w' ∧ Below W.heap.size W w') := Lib.hid (fun W h => by rw [hRW]; exact radd13_any g Aa ca KA q.e q.p W h (by have := HGA.out.2; omega) HLS.out.le HGA.out.1)
       have HEU : Hid ((q.u = true → remE KA q.k = E ∧ remL KA q.k = K2) ∧ (q.u = false → addE (g.m : Int) g.cp KA q.k = E ∧ addL (g.m : Int) g.cp KA q.k = K2)) := Lib.hid (by
        obtain ⟨h1, h2⟩ := HE.out
        unfold stpE at h1
        unfold stpL at h2
        exact ⟨fun h => by rw [if_pos h] at h1 h2; exact ⟨h1, h2⟩, fun h => by rw [if_neg (by rw [h]; simp)] at h1 h2; exact ⟨h1, h2⟩⟩)
       clear hRW
       have HP1 : True := trivial
       cases hu : q.u
       ·rw [hu] at y2
        obtain ⟨hEE, hKK⟩ := HEU.out.2 hu
        rw [hEE, hKK] at HRA
        clear hu hEE hKK HRR
        go_wp2_with (first
         | (clear HP1; refine wpList_load_is rfl 69 _ rfl (.pointer (some ⟨s9, 0, none⟩)) rfl RW (HLRA.out _ HL6.out.1.bx) ?_)
         | (go_at_call 32; refine (HRA.out _ HL6.out.1.row).mono ?_; rintro r w5 ⟨⟨A5, c5, rfl, hle5, hr5, hf5⟩, hb5⟩; have HR5 := Lib.hid hr5; have HLE5 := Lib.hid hle5; have HF5 : Hid (∀ b o, A5 = some ⟨b, o, none⟩ → s9 < b) := Lib.hid (fun b o hb => hf5.elim (fun e => HL6.out.1.far b o (by rw [← e]; exact hb)) (fun h => Nat.lt_of_lt_of_le HL6.out.1.bx.lt (h b o hb))); have HL5 := Lib.hid (HL6.out.up hb5); clear hle5 hr5 hf5 hb5)
         | (refine wpList_store_wh rfl 69 _ _ rfl s9 rfl 69 (rlC g (.slice Aa KA.length ca)) (rlC g (.slice A5 K2.length c5)) rfl HL5.out.1.bx rfl (by kernel_rfl) (by kernel_rfl) ?_; intro w8_ hr8_ ho8_ hz8_))
        go_meet
        exact ⟨rfl, Lib.hid ⟨A5, c5, HL5.out.put HR5.out HLE5.out HF5.out hr8_.out ho8_.out H9L.out H9R.out⟩⟩
       ·rw [hu] at y2
        obtain ⟨hEE, hKK⟩ := HEU.out.1 hu
        rw [hEE, hKK] at HRR
        clear hu hEE hKK HRA
        go_wp2_with (first
         | (clear HP1; refine wpList_load_is rfl 69 _ rfl (.pointer (some ⟨s9, 0, none⟩)) rfl RW (HLRA.out _ HL6.out.1.bx) ?_)
         | (go_at_call 31; refine (HRR.out _ HL6.out.1.row).mono ?_; rintro r w5 ⟨⟨A5, c5, rfl, hle5, hr5, hf5⟩, hb5⟩; have HR5 := Lib.hid hr5; have HLE5 := Lib.hid hle5; have HF5 : Hid (∀ b o, A5 = some ⟨b, o, none⟩ → s9 < b) := Lib.hid (fun b o hb => hf5.elim (fun e => HL6.out.1.far b o (by rw [← e]; exact hb)) (fun h => Nat.lt_of_lt_of_le HL6.out.1.bx.lt (h b o hb))); have HL5 := Lib.hid (HL6.out.up hb5); clear hle5 hr5 hf5 hb5)
         | (refine wpList_store_wh rfl 69 _ _ rfl s9 rfl 69 (rlC g (.slice Aa KA.length ca)) (rlC g (.slice A5 K2.length c5)) rfl HL5.out.1.bx rfl (by kernel_rfl) (by kernel_rfl) ?_; intro w8_ hr8_ ho8_ hz8_))
        go_meet
        exact ⟨rfl, Lib.hid ⟨A5, c5, HL5.out.put HR5.out HLE5.out HF5.out hr8_.out ho8_.out H9L.out H9R.out⟩⟩
      case rest =>
      obtain ⟨rfl, HX⟩ := hcut
      obtain ⟨A2, c2, hLx⟩ := HX.out
      clear HX y0 y1 y2 HL6 HLS HLY
      have HXC := Lib.hid hLx
      clear hLx
      obtain ⟨RW, hRW⟩ : ∃ RW, RW = rlV g (.slice A2 K2.length c2) := ⟨_, rfl⟩
      have HRW := Lib.hid hRW
      have HK5 : Hid (K2.length ≤ 1000) := Lib.hid (by have := HG2.out.2; omega)
      have HLW : Hid (∀ W, Wh 69 W s9 (rlC g (.slice A2 K2.length c2)) → (Instr.loadAt 69 (.pointer (some ⟨s9, 0, none⟩))).run Tryz.prog W = .ok RW W) := Lib.hid (fun W h => by rw [hRW]; exact HLR.out W A2 c2 K2 h)
      obtain ⟨CH, hCH⟩ : ∃ CH, chkL (g.m : Int) g.cy g.cm g.cp K2 x.ent x.day = CH := ⟨_, rfl⟩
      have HCP : Hid (∀ W, LK W j (i + 1) K2 → Calls Tryz.prog 38 #[.pointer (some ⟨j.b, 0, none⟩), XV] W fun r w' => r = .returned (.int .i64 CH) ∧ Below W.heap.size W w') := Lib.hid (fun W h => by have h9 := check_any x h HXW.out; rw [HJQ.out.1, HJQ.out.2.1, HJQ.out.2.2.1, HJQ.out.2.2.2, hCH, ← HXV.out] at h9; exact h9)
      have HCR : Hid (∀ W, RowAt lyP W A2 K2 → Calls Tryz.prog 39 #[RW, XV] W fun r w' => r = .returned (.int .i64 CH) ∧ Below W.heap.size W w') := Lib.hid (fun W h => by have h9 := rcheck13_any g A2 c2 K2 x W h HK5.out HG2.out.1; rw [hCH, ← HRW.out, ← HXV.out] at h9; exact h9)
      clear hRW hCH
      have HLQ : Hid (∀ W, Wh 73 W sr (stpC q) → (Instr.loadAt 73 (.pointer (some ⟨sr, 0, none⟩))).run Tryz.prog W = .ok (stpV q) W) := Lib.hid (fun W h => h.rg.load 0 73 (stpC q) rfl _ Tryz.underlying73 rfl (by kernel_rfl))
      have HDO : Hid (∀ W, LK W j i KA → Calls Tryz.prog 33 #[.pointer (some ⟨j.b, 0, none⟩), stpV q] W fun r w' => r = .returned (.int .i64 E) ∧ LK w' j (i + 1) K2 ∧ Only (fun t => t = j.bm) W w') := Lib.hid (fun W h => by have h9 := do_any q h HQK.out (by have := HIN.out; omega); rw [HJQ.out.1, HJQ.out.2.2.2, HE.out.1, HE.out.2] at h9; exact h9)
      obtain ⟨b0, hb0⟩ : ∃ b0, decide ((q.e, q.p) ∈ K2) = b0 := ⟨_, rfl⟩
      have HLKP : Hid (∀ W, LK W j (i + 1) K2 → Calls Tryz.prog 34 #[.pointer (some ⟨j.b, 0, none⟩), .int .i64 q.e, .int .i64 q.p] W fun r w' => r = .returned (.bool b0) ∧ W = w') := Lib.hid (fun W h => by have h9 := llkd_any q.e q.p h HQK.out; rw [hb0] at h9; exact h9)
      have HLKR : Hid (∀ W, RowAt lyP W A2 K2 → Calls Tryz.prog 35 #[RW, .int .i64 q.e, .int .i64 q.p] W fun r w' => r = .returned (.bool b0) ∧ Below W.heap.size W w') := Lib.hid (fun W h => by have h9 := rlocked13_any g A2 c2 K2 q.e q.p W h HK5.out; rw [hb0, ← HRW.out] at h9; exact h9)
      obtain ⟨DD, hDD⟩ : ∃ DD, untD g.cy g.cm g.cp K2 q.e = DD := ⟨_, rfl⟩
      obtain ⟨b1, hb1⟩ : ∃ b1, untB K2 q.e = b1 := ⟨_, rfl⟩
      have HUP : Hid (∀ W, LK W j (i + 1) K2 → Calls Tryz.prog 36 #[.pointer (some ⟨j.b, 0, none⟩), .int .i64 q.e] W fun r w' => r = .returned (.tuple #[.int .i64 DD, .bool b1]) ∧ Below W.heap.size W w') := Lib.hid (fun W h => by have h9 := until_any q.e h HQK.out.1; rw [HJQ.out.2.1, HJQ.out.2.2.1, HJQ.out.2.2.2, hDD, hb1] at h9; exact h9)
      have HUR : Hid (∀ W, RowAt lyP W A2 K2 → Calls Tryz.prog 37 #[RW, .int .i64 q.e] W fun r w' => r = .returned (.tuple #[.int .i64 DD, .bool b1]) ∧ Below W.heap.size W w') := Lib.hid (fun W h => by have h9 := runtil13_any g A2 c2 K2 q.e (g.m : Int) W h HK5.out HG2.out.1; rw [hDD, hb1, ← HRW.out] at h9; exact h9)
      have HLI : Hid (∀ W, LK W j (i + 1) K2 → Calls Tryz.prog 42 #[.pointer (some ⟨j.b, 0, none⟩)] W fun e w' => (∃ (A : Option Addr) (c : Nat), e = .returned (.slice A K2.length c) ∧ RowAt lyP w' A K2) ∧ Below W.heap.size W w') := Lib.hid (fun W h => list_any j (i + 1) K2 W h (by have := HIN.out; omega))
      have HSA : Hid (∀ A5 c5 W, RowAt lyP W A5 K2 → RowAt lyP W A2 K2 → Calls Tryz.prog 40 #[.slice A5 K2.length c5, .slice A2 K2.length c2] W fun e w' => e = .returned (.bool true) ∧ Below W.heap.size W w') := Lib.hid (fun A5 c5 W h5 h2 => by have h9 := same13_any A5 A2 c5 c2 K2 K2 W h5 h2 HK5.out HK5.out; rw [decide_eq_true (show K2 = K2 from rfl)] at h9; exact h9)
      have HBX : Hid (∀ W, Wh 69 W s9 (rlC g (.slice A2 K2.length c2)) → W.cell? ⟨s9, 21, none⟩ = some (.slice A2 K2.length c2)) := Lib.hid (fun W h => h.at 21 _ rfl)
      have HJ0 : Hid (DoJ (LSt w2 j g i s9 KA K2 A2 c2 sr q) (LSt w2 j g (i + 1) s9 K2 K2 A2 c2 sr q) E 0 [] wc.drew) := Lib.hid ⟨fun _ => HXC.out.up (dc_drew (Below.refl _ _)), fun h => by cases h⟩
      clear hb0 hDD hb1
      go_upto_region 14 with fail
      refine AK.region_facts (Rp := Below0) (Kp := DoK (LSt w2 j g (i + 1) s9 K2 K2 A2 c2 sr q)) (lwSa j s9 sr q E b0 RW (LSt w2 j g (i + 1) s9 K2 K2 A2 c2 sr q)) (DoJ (LSt w2 j g i s9 KA K2 A2 c2 sr q) (LSt w2 j g (i + 1) s9 K2 K2 A2 c2 sr q) E) [[], [], [81, 82], [], [83, 84], [85], [86], [86], [88, 86], [86], [90, 86], [87, 89, 91, 86], [86], [86], [94, 86], [86], [96, 86], [93, 95, 97, 86], [92, 98, 86], [86, 99]] [2] [[], [83]] [0, 0, 1, 1, 1, 1, 1, 1, 1, 1, 1, 1, 1, 1, 1, 1, 1, 1, 1, 1] [0, 0, 0, 0, 1, 0, 0, 0, 0, 0, 0, 0, 0, 0, 0, 0, 0, 0, 0, 0] [] (fun u => by simp only [lwSa, AK.temps, List.map_cons, List.map_nil, fillL, List.setIfInBounds_toArray, List.set_cons_zero, List.set_cons_succ]; rfl) (by kernel_rfl) (by kernel_rfl) (fun _ _ h => h.1) (fun _ _ h => ⟨h.size, fun hd => hd.up h⟩) (fun _ _ _ _ hb h => ⟨fun e => (h.1 e).up hb, fun e => ⟨(h.2 e).1.up hb, (h.2 e).2⟩⟩) (HJ0.out) ?_ ?_
      ·refine AK.sc (lim := 0) (lo := 0) rfl rfl rfl rfl ?_ ?_
       ·intro k_ u w_ hk_ hl_ hJ hF K hK
        obtain rfl : k_ = 0 := by omega
        clear hF
        go_simp
        exact hK.out _ _ (Below.refl _ _) (rfl) trivial
       refine AK.sc (lim := 0) (lo := 0) rfl rfl rfl rfl ?_ ?_
       ·intro k_ u w_ hk_ hl_ hJ hF K hK
        obtain rfl : k_ = 0 := by omega
        clear hF
        have hd_ := hJ.1 (by omega)
        refine wp_load_is 73 _ rfl (.pointer (some ⟨sr, 0, none⟩)) rfl (stpV q) (HLQ.out _ hd_.2) ?_
        exact hK.out _ _ (Below.refl _ _) rfl trivial
       refine AK.ss rfl rfl ?_ ?_
       ·intro u w_ hJ hA_ hF K hK
        have h81 : u 81 = .pointer (some ⟨j.b, 0, none⟩) := AK.facts_get hF 81 (by simp)
        have h82 : u 82 = stpV q := AK.facts_get hF 82 (by simp)
        clear hF
        simp only [h81, h82] at hK ⊢
        clear h81 h82
        have hd_ := hJ.1 rfl
        go_simp
        refine (HDO.out _ hd_.1.lk).mono ?_
        rintro r v5 ⟨rfl, h5, o5⟩
        exact hK.out _ _ ⟨fun h => by omega, fun _ => ⟨hd_.did h5 o5 HBM.out, fun v hv => by cases hv; rfl⟩⟩ ⟨o5.size, fun _ => hd_.did h5 o5 HBM.out⟩ trivial
       refine AK.sc (lim := 1) (lo := 0) rfl rfl rfl rfl ?_ ?_
       ·intro k_ u w_ hk_ hl_ hJ hF K hK
        clear hF
        go_simp
        exact hK.out _ _ (Below.refl _ _) (rfl) trivial
       refine AK.sc (lim := 1) (lo := 1) rfl rfl rfl rfl ?_ ?_
       ·intro k_ u w_ hk_ hl_ hJ hF K hK
        obtain rfl : k_ = 1 := by omega
        have h84 : u 84 = .int .i64 E := AK.facts_get hF 84 (by simp)
        clear hF
        obtain ⟨hd_, hv_⟩ := hJ.2 rfl
        have e83_ : u 83 = .int .i64 E := hv_ _ rfl
        simp only [h84, e83_] at hK ⊢
        clear h84 e83_
        go_simp
        exact hK.out _ _ (Below.refl _ _) ⟨by first | rfl | simp, hd_⟩ trivial
       refine AK.sc (lim := 1) (lo := 0) rfl rfl rfl rfl ?_ ?_
       ·intro k_ u w_ hk_ hl_ hJ hF K hK
        have h85 : u 85 = .bool false ∧ (LSt w2 j g (i + 1) s9 K2 K2 A2 c2 sr q) w_ := AK.facts_get hF 85 (by simp)
        clear hF
        obtain ⟨h85, hd85⟩ := h85
        simp only [h85] at hK ⊢
        clear h85
        go_simp
        exact hK.out _ _ (Below.refl _ _) ⟨rfl, hd85⟩ trivial
       refine AK.sc (lim := 1) (lo := 0) rfl rfl rfl rfl ?_ ?_
       ·intro k_ u w_ hk_ hl_ hJ hF K hK
        have h86 : u 86 = .bool false ∧ (LSt w2 j g (i + 1) s9 K2 K2 A2 c2 sr q) w_ := AK.facts_get hF 86 (by simp)
        clear hF
        obtain ⟨h86, hd86⟩ := h86
        simp only [h86] at hK ⊢
        clear h86
        go_simp
        exact hK.out _ _ (Below.refl _ _) (rfl) trivial
       refine AK.sc (lim := 1) (lo := 0) rfl rfl rfl rfl ?_ ?_
       ·intro k_ u w_ hk_ hl_ hJ hF K hK
        have h86 : u 86 = .bool false ∧ (LSt w2 j g (i + 1) s9 K2 K2 A2 c2 sr q) w_ := AK.facts_get hF 86 (by simp)
        clear hF
        obtain ⟨h86, hd86⟩ := h86
        simp only [h86] at hK ⊢
        clear h86
        go_simp
        exact hK.out _ _ (Below.refl _ _) (rfl) trivial
       refine AK.sc (lim := 1) (lo := 0) rfl rfl rfl rfl ?_ ?_
       ·intro k_ u w_ hk_ hl_ hJ hF K hK
        have h88 : u 88 = .pointer (some ⟨sr, 0, none⟩) := AK.facts_get hF 88 (by simp)
        have h86 : u 86 = .bool false ∧ (LSt w2 j g (i + 1) s9 K2 K2 A2 c2 sr q) w_ := AK.facts_get hF 86 (by simp)
        clear hF
        obtain ⟨h86, hd86⟩ := h86
        simp only [h88, h86] at hK ⊢
        clear h88 h86
        have c_ := hd86.2.at 0 _ rfl
        go_simp
        exact hK.out _ _ (Below.refl _ _) (rfl) trivial
       refine AK.sc (lim := 1) (lo := 0) rfl rfl rfl rfl ?_ ?_
       ·intro k_ u w_ hk_ hl_ hJ hF K hK
        have h86 : u 86 = .bool false ∧ (LSt w2 j g (i + 1) s9 K2 K2 A2 c2 sr q) w_ := AK.facts_get hF 86 (by simp)
        clear hF
        obtain ⟨h86, hd86⟩ := h86
        simp only [h86] at hK ⊢
        clear h86
        go_simp
        exact hK.out _ _ (Below.refl _ _) (rfl) trivial
       refine AK.sc (lim := 1) (lo := 0) rfl rfl rfl rfl ?_ ?_
       ·intro k_ u w_ hk_ hl_ hJ hF K hK
        have h90 : u 90 = .pointer (some ⟨sr, 1, none⟩) := AK.facts_get hF 90 (by simp)
        have h86 : u 86 = .bool false ∧ (LSt w2 j g (i + 1) s9 K2 K2 A2 c2 sr q) w_ := AK.facts_get hF 86 (by simp)
        clear hF
        obtain ⟨h86, hd86⟩ := h86
        simp only [h90, h86] at hK ⊢
        clear h90 h86
        have c_ := hd86.2.at 1 _ rfl
        go_simp
        exact hK.out _ _ (Below.refl _ _) (rfl) trivial
       refine AK.sc (lim := 1) (lo := 0) rfl rfl rfl rfl ?_ ?_
       ·intro k_ u w_ hk_ hl_ hJ hF K hK
        have h87 : u 87 = .pointer (some ⟨j.b, 0, none⟩) := AK.facts_get hF 87 (by simp)
        have h89 : u 89 = .int .i64 q.e := AK.facts_get hF 89 (by simp)
        have h91 : u 91 = .int .i64 q.p := AK.facts_get hF 91 (by simp)
        have h86 : u 86 = .bool false ∧ (LSt w2 j g (i + 1) s9 K2 K2 A2 c2 sr q) w_ := AK.facts_get hF 86 (by simp)
        clear hF
        obtain ⟨h86, hd86⟩ := h86
        simp only [h87, h89, h91, h86] at hK ⊢
        clear h87 h89 h91 h86
        go_simp
        refine (HLKP.out _ hd86.1.lk).mono ?_
        rintro r v6 ⟨rfl, rfl⟩
        exact hK.out _ _ (Below.refl _ _) rfl trivial
       refine AK.sc (lim := 1) (lo := 0) rfl rfl rfl rfl ?_ ?_
       ·intro k_ u w_ hk_ hl_ hJ hF K hK
        have h86 : u 86 = .bool false ∧ (LSt w2 j g (i + 1) s9 K2 K2 A2 c2 sr q) w_ := AK.facts_get hF 86 (by simp)
        clear hF
        obtain ⟨h86, hd86⟩ := h86
        simp only [h86] at hK ⊢
        clear h86
        refine wp_load_if_ 69 _ rfl (.pointer (some ⟨s9, 0, none⟩)) rfl RW (HLW.out _ hd86.1.bx) ?_
        exact hK.out _ _ (Below.refl _ _) rfl trivial
       refine AK.sc (lim := 1) (lo := 0) rfl rfl rfl rfl ?_ ?_
       ·intro k_ u w_ hk_ hl_ hJ hF K hK
        have h86 : u 86 = .bool false ∧ (LSt w2 j g (i + 1) s9 K2 K2 A2 c2 sr q) w_ := AK.facts_get hF 86 (by simp)
        clear hF
        obtain ⟨h86, hd86⟩ := h86
        simp only [h86] at hK ⊢
        clear h86
        go_simp
        exact hK.out _ _ (Below.refl _ _) (rfl) trivial
       refine AK.sc (lim := 1) (lo := 0) rfl rfl rfl rfl ?_ ?_
       ·intro k_ u w_ hk_ hl_ hJ hF K hK
        have h94 : u 94 = .pointer (some ⟨sr, 0, none⟩) := AK.facts_get hF 94 (by simp)
        have h86 : u 86 = .bool false ∧ (LSt w2 j g (i + 1) s9 K2 K2 A2 c2 sr q) w_ := AK.facts_get hF 86 (by simp)
        clear hF
        obtain ⟨h86, hd86⟩ := h86
        simp only [h94, h86] at hK ⊢
        clear h94 h86
        have c_ := hd86.2.at 0 _ rfl
        go_simp
        exact hK.out _ _ (Below.refl _ _) (rfl) trivial
       refine AK.sc (lim := 1) (lo := 0) rfl rfl rfl rfl ?_ ?_
       ·intro k_ u w_ hk_ hl_ hJ hF K hK
        have h86 : u 86 = .bool false ∧ (LSt w2 j g (i + 1) s9 K2 K2 A2 c2 sr q) w_ := AK.facts_get hF 86 (by simp)
        clear hF
        obtain ⟨h86, hd86⟩ := h86
        simp only [h86] at hK ⊢
        clear h86
        go_simp
        exact hK.out _ _ (Below.refl _ _) (rfl) trivial
       refine AK.sc (lim := 1) (lo := 0) rfl rfl rfl rfl ?_ ?_
       ·intro k_ u w_ hk_ hl_ hJ hF K hK
        have h96 : u 96 = .pointer (some ⟨sr, 1, none⟩) := AK.facts_get hF 96 (by simp)
        have h86 : u 86 = .bool false ∧ (LSt w2 j g (i + 1) s9 K2 K2 A2 c2 sr q) w_ := AK.facts_get hF 86 (by simp)
        clear hF
        obtain ⟨h86, hd86⟩ := h86
        simp only [h96, h86] at hK ⊢
        clear h96 h86
        have c_ := hd86.2.at 1 _ rfl
        go_simp
        exact hK.out _ _ (Below.refl _ _) (rfl) trivial
       refine AK.sc (lim := 1) (lo := 0) rfl rfl rfl rfl ?_ ?_
       ·intro k_ u w_ hk_ hl_ hJ hF K hK
        have h93 : u 93 = RW := AK.facts_get hF 93 (by simp)
        have h95 : u 95 = .int .i64 q.e := AK.facts_get hF 95 (by simp)
        have h97 : u 97 = .int .i64 q.p := AK.facts_get hF 97 (by simp)
        have h86 : u 86 = .bool false ∧ (LSt w2 j g (i + 1) s9 K2 K2 A2 c2 sr q) w_ := AK.facts_get hF 86 (by simp)
        clear hF
        obtain ⟨h86, hd86⟩ := h86
        simp only [h93, h95, h97, h86] at hK ⊢
        clear h93 h95 h97 h86
        go_simp
        refine (HLKR.out _ hd86.1.row).mono ?_
        rintro r v6 ⟨rfl, hb6⟩
        exact hK.out _ _ hb6 rfl trivial
       refine AK.sc (lim := 1) (lo := 0) rfl rfl rfl rfl ?_ ?_
       ·intro k_ u w_ hk_ hl_ hJ hF K hK
        have h92 : u 92 = .bool b0 := AK.facts_get hF 92 (by simp)
        have h98 : u 98 = .bool b0 := AK.facts_get hF 98 (by simp)
        have h86 : u 86 = .bool false ∧ (LSt w2 j g (i + 1) s9 K2 K2 A2 c2 sr q) w_ := AK.facts_get hF 86 (by simp)
        clear hF
        obtain ⟨h86, hd86⟩ := h86
        simp only [h92, h98, h86] at hK ⊢
        clear h92 h98 h86
        go_simp
        exact hK.out _ _ (Below.refl _ _) (rfl) trivial
       refine AK.sc (lim := 1) (lo := 0) rfl rfl rfl rfl ?_ ?_
       ·intro k_ u w_ hk_ hl_ hJ hF K hK
        have h86 : u 86 = .bool false ∧ (LSt w2 j g (i + 1) s9 K2 K2 A2 c2 sr q) w_ := AK.facts_get hF 86 (by simp)
        have h99 : u 99 = .bool false := AK.facts_get hF 99 (by simp)
        clear hF
        obtain ⟨h86, hd86⟩ := h86
        simp only [h86, h99] at hK ⊢
        clear h86 h99
        go_simp
        exact hK.out _ _ (Below.refl _ _) (rfl) trivial
       exact AK.StepsOk.nil
      ·intro u W9 hJ9 hF
       have h100 : u 100 = .bool false := AK.facts_get hF 100 (by simp [lwSa, AK.temps])
       clear hF
       have hL9 := (hJ9.2 rfl).1
       have HL9 := Lib.hid hL9
       have x0 := hL9.2.at 0 _ rfl
       simp only [h100]
       clear hJ9 hL9 h100
       have HP2 : True := trivial
       go_upto_region 18 with (first
        | (go_at_call 36; refine (HUP.out _ HL9.out.1.lk).mono ?_; rintro r wz ⟨rfl, hb⟩; have HLz := Lib.hid (HL9.out.up hb); have z0 := (HL9.out.up hb).2.at 0 _ rfl; clear hb)
        | (clear HP2; refine wpList_load_is rfl 69 _ rfl (.pointer (some ⟨s9, 0, none⟩)) rfl RW (HLW.out _ HLz.out.1.bx) ?_)
        | (go_at_call 37; refine (HUR.out _ HLz.out.1.row).mono ?_; rintro r wy ⟨rfl, hb⟩; have HJ := Lib.hid ((HLz.out.up hb).1); clear hb))
       refine AK.region_facts (Rp := Below0) (Kp := Below0) (lwSb j s0 s9 c2 A2 K2 DD CH b1 RW XV) (fun _ _ W => Below wy.heap.size wy W) [[], [], [115, 116], [117], [118], [118], [119, 120, 118], [118, 121], [122], [123], [123], [124, 125, 123], [123], [123], [127, 128, 123], [126, 129, 123], [123, 130], [131], [132], [133, 132], [134, 132], [132], [136, 132], [135, 137, 132], [138, 132], [132, 139]] [] [[]] [0, 0, 0, 0, 0, 0, 0, 0, 0, 0, 0, 0, 0, 0, 0, 0, 0, 0, 0, 0, 0, 0, 0, 0, 0, 0] [0, 0, 0, 0, 0, 0, 0, 0, 0, 0, 0, 0, 0, 0, 0, 0, 0, 0, 0, 0, 0, 0, 0, 0, 0, 0] [] (fun u => by simp only [lwSb, AK.temps, List.map_cons, List.map_nil, fillL, List.setIfInBounds_toArray, List.set_cons_zero, List.set_cons_succ]; rfl) (by kernel_rfl) (by kernel_rfl) (fun _ _ h => h.size) (fun _ _ h => h) (fun _ _ _ _ hb h => h.trans (hb.mono h.size)) (dc_drew (Below.refl _ _)) ?_ ?_
       ·refine AK.sc (lim := 0) (lo := 0) rfl rfl rfl rfl ?_ ?_
        ·intro k_ u w_ hk_ hl_ hJ hF K hK
         clear hF
         go_simp
         exact hK.out _ _ (Below.refl _ _) (rfl) trivial
        refine AK.sc (lim := 0) (lo := 0) rfl rfl rfl rfl ?_ ?_
        ·intro k_ u w_ hk_ hl_ hJ hF K hK
         clear hF
         go_simp
         exact hK.out _ _ (Below.refl _ _) (rfl) trivial
        refine AK.sc (lim := 0) (lo := 0) rfl rfl rfl rfl ?_ ?_
        ·intro k_ u w_ hk_ hl_ hJ hF K hK
         have h115 : u 115 = .int .i64 DD := AK.facts_get hF 115 (by simp)
         have h116 : u 116 = .int .i64 DD := AK.facts_get hF 116 (by simp)
         clear hF
         simp only [h115, h116] at hK ⊢
         clear h115 h116
         go_simp
         exact hK.out _ _ (Below.refl _ _) (rfl) trivial
        refine AK.sc (lim := 0) (lo := 0) rfl rfl rfl rfl ?_ ?_
        ·intro k_ u w_ hk_ hl_ hJ hF K hK
         have h117 : u 117 = .bool false := AK.facts_get hF 117 (by simp)
         clear hF
         simp only [h117] at hK ⊢
         clear h117
         go_simp
         exact hK.out _ _ (Below.refl _ _) (rfl) trivial
        refine AK.sc (lim := 0) (lo := 0) rfl rfl rfl rfl ?_ ?_
        ·intro k_ u w_ hk_ hl_ hJ hF K hK
         have h118 : u 118 = .bool false := AK.facts_get hF 118 (by simp)
         clear hF
         simp only [h118] at hK ⊢
         clear h118
         go_simp
         exact hK.out _ _ (Below.refl _ _) (rfl) trivial
        refine AK.sc (lim := 0) (lo := 0) rfl rfl rfl rfl ?_ ?_
        ·intro k_ u w_ hk_ hl_ hJ hF K hK
         have h118 : u 118 = .bool false := AK.facts_get hF 118 (by simp)
         clear hF
         simp only [h118] at hK ⊢
         clear h118
         go_simp
         exact hK.out _ _ (Below.refl _ _) (rfl) trivial
        refine AK.sc (lim := 0) (lo := 0) rfl rfl rfl rfl ?_ ?_
        ·intro k_ u w_ hk_ hl_ hJ hF K hK
         have h119 : u 119 = .bool b1 := AK.facts_get hF 119 (by simp)
         have h120 : u 120 = .bool b1 := AK.facts_get hF 120 (by simp)
         have h118 : u 118 = .bool false := AK.facts_get hF 118 (by simp)
         clear hF
         simp only [h119, h120, h118] at hK ⊢
         clear h119 h120 h118
         go_simp
         exact hK.out _ _ (Below.refl _ _) (rfl) trivial
        refine AK.sc (lim := 0) (lo := 0) rfl rfl rfl rfl ?_ ?_
        ·intro k_ u w_ hk_ hl_ hJ hF K hK
         have h118 : u 118 = .bool false := AK.facts_get hF 118 (by simp)
         have h121 : u 121 = .bool false := AK.facts_get hF 121 (by simp)
         clear hF
         simp only [h118, h121] at hK ⊢
         clear h118 h121
         go_simp
         exact hK.out _ _ (Below.refl _ _) (rfl) trivial
        refine AK.sc (lim := 0) (lo := 0) rfl rfl rfl rfl ?_ ?_
        ·intro k_ u w_ hk_ hl_ hJ hF K hK
         have h122 : u 122 = .bool false := AK.facts_get hF 122 (by simp)
         clear hF
         simp only [h122] at hK ⊢
         clear h122
         go_simp
         exact hK.out _ _ (Below.refl _ _) (rfl) trivial
        refine AK.sc (lim := 0) (lo := 0) rfl rfl rfl rfl ?_ ?_
        ·intro k_ u w_ hk_ hl_ hJ hF K hK
         have h123 : u 123 = .bool false := AK.facts_get hF 123 (by simp)
         clear hF
         simp only [h123] at hK ⊢
         clear h123
         go_simp
         exact hK.out _ _ (Below.refl _ _) (rfl) trivial
        refine AK.sc (lim := 0) (lo := 0) rfl rfl rfl rfl ?_ ?_
        ·intro k_ u w_ hk_ hl_ hJ hF K hK
         have h123 : u 123 = .bool false := AK.facts_get hF 123 (by simp)
         clear hF
         simp only [h123] at hK ⊢
         clear h123
         refine wp_load_if_ 46 _ rfl (.pointer (some ⟨s0 + 1, 0, none⟩)) rfl XV (HLX.out _ (HJ.out.up hJ).low) ?_
         exact hK.out _ _ (Below.refl _ _) rfl trivial
        refine AK.sc (lim := 0) (lo := 0) rfl rfl rfl rfl ?_ ?_
        ·intro k_ u w_ hk_ hl_ hJ hF K hK
         have h124 : u 124 = .pointer (some ⟨j.b, 0, none⟩) := AK.facts_get hF 124 (by simp)
         have h125 : u 125 = XV := AK.facts_get hF 125 (by simp)
         have h123 : u 123 = .bool false := AK.facts_get hF 123 (by simp)
         clear hF
         simp only [h124, h125, h123] at hK ⊢
         clear h124 h125 h123
         go_simp
         refine (HCP.out _ (HJ.out.up hJ).lk).mono ?_
         rintro r v6 ⟨rfl, hb6⟩
         exact hK.out _ _ hb6 rfl trivial
        refine AK.sc (lim := 0) (lo := 0) rfl rfl rfl rfl ?_ ?_
        ·intro k_ u w_ hk_ hl_ hJ hF K hK
         have h123 : u 123 = .bool false := AK.facts_get hF 123 (by simp)
         clear hF
         simp only [h123] at hK ⊢
         clear h123
         refine wp_load_if_ 69 _ rfl (.pointer (some ⟨s9, 0, none⟩)) rfl RW (HLW.out _ (HJ.out.up hJ).bx) ?_
         exact hK.out _ _ (Below.refl _ _) rfl trivial
        refine AK.sc (lim := 0) (lo := 0) rfl rfl rfl rfl ?_ ?_
        ·intro k_ u w_ hk_ hl_ hJ hF K hK
         have h123 : u 123 = .bool false := AK.facts_get hF 123 (by simp)
         clear hF
         simp only [h123] at hK ⊢
         clear h123
         refine wp_load_if_ 46 _ rfl (.pointer (some ⟨s0 + 1, 0, none⟩)) rfl XV (HLX.out _ (HJ.out.up hJ).low) ?_
         exact hK.out _ _ (Below.refl _ _) rfl trivial
        refine AK.sc (lim := 0) (lo := 0) rfl rfl rfl rfl ?_ ?_
        ·intro k_ u w_ hk_ hl_ hJ hF K hK
         have h127 : u 127 = RW := AK.facts_get hF 127 (by simp)
         have h128 : u 128 = XV := AK.facts_get hF 128 (by simp)
         have h123 : u 123 = .bool false := AK.facts_get hF 123 (by simp)
         clear hF
         simp only [h127, h128, h123] at hK ⊢
         clear h127 h128 h123
         go_simp
         refine (HCR.out _ (HJ.out.up hJ).row).mono ?_
         rintro r v6 ⟨rfl, hb6⟩
         exact hK.out _ _ hb6 rfl trivial
        refine AK.sc (lim := 0) (lo := 0) rfl rfl rfl rfl ?_ ?_
        ·intro k_ u w_ hk_ hl_ hJ hF K hK
         have h126 : u 126 = .int .i64 CH := AK.facts_get hF 126 (by simp)
         have h129 : u 129 = .int .i64 CH := AK.facts_get hF 129 (by simp)
         have h123 : u 123 = .bool false := AK.facts_get hF 123 (by simp)
         clear hF
         simp only [h126, h129, h123] at hK ⊢
         clear h126 h129 h123
         go_simp
         exact hK.out _ _ (Below.refl _ _) (rfl) trivial
        refine AK.sc (lim := 0) (lo := 0) rfl rfl rfl rfl ?_ ?_
        ·intro k_ u w_ hk_ hl_ hJ hF K hK
         have h123 : u 123 = .bool false := AK.facts_get hF 123 (by simp)
         have h130 : u 130 = .bool false := AK.facts_get hF 130 (by simp)
         clear hF
         simp only [h123, h130] at hK ⊢
         clear h123 h130
         go_simp
         exact hK.out _ _ (Below.refl _ _) (rfl) trivial
        refine AK.sc (lim := 0) (lo := 0) rfl rfl rfl rfl ?_ ?_
        ·intro k_ u w_ hk_ hl_ hJ hF K hK
         have h131 : u 131 = .bool false := AK.facts_get hF 131 (by simp)
         clear hF
         simp only [h131] at hK ⊢
         clear h131
         go_simp
         exact hK.out _ _ (Below.refl _ _) (rfl) trivial
        refine AK.sc (lim := 0) (lo := 0) rfl rfl rfl rfl ?_ ?_
        ·intro k_ u w_ hk_ hl_ hJ hF K hK
         have h132 : u 132 = .bool false := AK.facts_get hF 132 (by simp)
         clear hF
         simp only [h132] at hK ⊢
         clear h132
         go_simp
         exact hK.out _ _ (Below.refl _ _) (rfl) trivial
        refine AK.sc (lim := 0) (lo := 0) rfl rfl rfl rfl ?_ ?_
        ·intro k_ u w_ hk_ hl_ hJ hF K hK
         have h133 : u 133 = .pointer (some ⟨j.b, 0, none⟩) := AK.facts_get hF 133 (by simp)
         have h132 : u 132 = .bool false := AK.facts_get hF 132 (by simp)
         clear hF
         simp only [h133, h132] at hK ⊢
         clear h133 h132
         go_simp
         refine (HLI.out _ (HJ.out.up hJ).lk).mono ?_
         rintro r v6 ⟨⟨A6, c6, rfl, hr6⟩, hb6⟩
         exact hK.out _ _ hb6 ⟨A6, c6, rfl, hr6⟩ trivial
        refine AK.sc (lim := 0) (lo := 0) rfl rfl rfl rfl ?_ ?_
        ·intro k_ u w_ hk_ hl_ hJ hF K hK
         have h134 : liP K2 (u 134) w_ := AK.facts_get hF 134 (by simp)
         have h132 : u 132 = .bool false := AK.facts_get hF 132 (by simp)
         clear hF
         obtain ⟨A5, c5, h134, hr5⟩ := h134
         simp only [h134, h132] at hK ⊢
         clear h134 h132
         obtain ⟨m5, hm5⟩ : ∃ m5, m5 = K2.length := ⟨_, rfl⟩
         rw [← hm5]
         go_simp
         try rw [hm5]
         refine (from_any A5 c5 K2 _ hr5 HK5.out).mono ?_
         rintro r v6 ⟨hq, hb6⟩
         obtain ⟨A6, c6, rfl, hu6⟩ := rk_row hq
         exact hK.out _ _ hb6 ⟨A6, c6, rfl, hu6⟩ trivial
        refine AK.sc (lim := 0) (lo := 0) rfl rfl rfl rfl ?_ ?_
        ·intro k_ u w_ hk_ hl_ hJ hF K hK
         have h132 : u 132 = .bool false := AK.facts_get hF 132 (by simp)
         clear hF
         simp only [h132] at hK ⊢
         clear h132
         go_simp
         exact hK.out _ _ (Below.refl _ _) (rfl) trivial
        refine AK.sc (lim := 0) (lo := 0) rfl rfl rfl rfl ?_ ?_
        ·intro k_ u w_ hk_ hl_ hJ hF K hK
         have h136 : u 136 = .pointer (some ⟨s9, 21, none⟩) := AK.facts_get hF 136 (by simp)
         have h132 : u 132 = .bool false := AK.facts_get hF 132 (by simp)
         clear hF
         simp only [h136, h132] at hK ⊢
         clear h136 h132
         have c_ := HBX.out _ (HJ.out.up hJ).bx
         go_simp
         exact hK.out _ _ (Below.refl _ _) (rfl) trivial
        refine AK.sc (lim := 0) (lo := 0) rfl rfl rfl rfl ?_ ?_
        ·intro k_ u w_ hk_ hl_ hJ hF K hK
         have h135 : liP K2 (u 135) w_ := AK.facts_get hF 135 (by simp)
         have h137 : u 137 = .slice A2 K2.length c2 := AK.facts_get hF 137 (by simp)
         have h132 : u 132 = .bool false := AK.facts_get hF 132 (by simp)
         clear hF
         obtain ⟨A5, c5, h135, hr5⟩ := h135
         simp only [h135, h137, h132] at hK ⊢
         clear h135 h137 h132
         obtain ⟨m5, hm5⟩ : ∃ m5, m5 = K2.length := ⟨_, rfl⟩
         rw [← hm5]
         go_simp
         try rw [hm5]
         refine (HSA.out A5 c5 _ hr5 (HJ.out.up hJ).row).mono ?_
         rintro r v6 ⟨rfl, hb6⟩
         exact hK.out _ _ hb6 rfl trivial
        refine AK.sc (lim := 0) (lo := 0) rfl rfl rfl rfl ?_ ?_
        ·intro k_ u w_ hk_ hl_ hJ hF K hK
         have h138 : u 138 = .bool true := AK.facts_get hF 138 (by simp)
         have h132 : u 132 = .bool false := AK.facts_get hF 132 (by simp)
         clear hF
         simp only [h138, h132] at hK ⊢
         clear h138 h132
         go_simp
         exact hK.out _ _ (Below.refl _ _) (rfl) trivial
        refine AK.sc (lim := 0) (lo := 0) rfl rfl rfl rfl ?_ ?_
        ·intro k_ u w_ hk_ hl_ hJ hF K hK
         have h132 : u 132 = .bool false := AK.facts_get hF 132 (by simp)
         have h139 : u 139 = .bool false := AK.facts_get hF 139 (by simp)
         clear hF
         simp only [h132, h139] at hK ⊢
         clear h132 h139
         go_simp
         exact hK.out _ _ (Below.refl _ _) (rfl) trivial
        exact AK.StepsOk.nil
       ·intro u W9 hJ9 hF
        have h140 : u 140 = .bool false := AK.facts_get hF 140 (by simp [lwSb, AK.temps])
        clear hF
        have HJ9 := Lib.hid (HJ.out.up hJ9)
        simp only [h140]
        clear hJ9 h140
        go_wp2_with fail
        go_roundg (n - (i + 1))
        case measure => omega
        case rel => exact ⟨i + 1, by go_num, by omega, by omega, Lib.hid ⟨A2, c2, by rw [HKT.out]; exact HJ9.out⟩⟩
     ·obtain rfl : n = i := by omega
      have hltz : ¬ (n : Int) < (n : Int) := by omega
      obtain ⟨K2, hK2⟩ : ∃ K2, stpsL (g.m : Int) g.cp (S.take n) = K2 := ⟨_, rfl⟩
      have HG2 : Hid (GoodL (g.m : Int) g.cp K2 ∧ K2.length ≤ 30) := Lib.hid (by rw [← hK2]; exact ⟨stpsL_good _ _ _, HK30.out n⟩)
      rw [hK2] at hL
      obtain ⟨A2, c2, hA2, hc2⟩ : ∃ A2 c2, A2 = Aa ∧ c2 = ca := ⟨_, _, rfl, rfl⟩
      subst hA2 hc2
      have HJ := Lib.hid hL
      have HLR : Hid (∀ W A c (K : LkL), Wh 69 W s9 (rlC g (.slice A K.length c)) → (Instr.loadAt 69 (.pointer (some ⟨s9, 0, none⟩))).run Tryz.prog W = .ok (rlV g (.slice A K.length c)) W) := Lib.hid (fun W A c K h => h.rg.load 0 69 (rlC g (.slice A K.length c)) rfl _ Tryz.underlying69 rfl (by kernel_rfl))
      clear hK2 hL
      obtain ⟨RW, hRW⟩ : ∃ RW, RW = rlV g (.slice A2 K2.length c2) := ⟨_, rfl⟩
      have HRW := Lib.hid hRW
      have HK5 : Hid (K2.length ≤ 1000) := Lib.hid (by have := HG2.out.2; omega)
      have HLW : Hid (∀ W, Wh 69 W s9 (rlC g (.slice A2 K2.length c2)) → (Instr.loadAt 69 (.pointer (some ⟨s9, 0, none⟩))).run Tryz.prog W = .ok RW W) := Lib.hid (fun W h => by rw [hRW]; exact HLR.out W A2 c2 K2 h)
      obtain ⟨CH, hCH⟩ : ∃ CH, chkL (g.m : Int) g.cy g.cm g.cp K2 x.ent x.day = CH := ⟨_, rfl⟩
      have HCP : Hid (∀ W, LK W j (n) K2 → Calls Tryz.prog 38 #[.pointer (some ⟨j.b, 0, none⟩), XV] W fun r w' => r = .returned (.int .i64 CH) ∧ Below W.heap.size W w') := Lib.hid (fun W h => by have h9 := check_any x h HXW.out; rw [HJQ.out.1, HJQ.out.2.1, HJQ.out.2.2.1, HJQ.out.2.2.2, hCH, ← HXV.out] at h9; exact h9)
      have HCR : Hid (∀ W, RowAt lyP W A2 K2 → Calls Tryz.prog 39 #[RW, XV] W fun r w' => r = .returned (.int .i64 CH) ∧ Below W.heap.size W w') := Lib.hid (fun W h => by have h9 := rcheck13_any g A2 c2 K2 x W h HK5.out HG2.out.1; rw [hCH, ← HRW.out, ← HXV.out] at h9; exact h9)
      clear hRW hCH
      go_upto_region 21 with fail
      refine AK.region_facts (Rp := Below0) (Kp := Below0) (lwSc j s0 s9 CH RW XV) (fun _ _ W => Below wr.heap.size wr W) [[], [], [142, 143], [], [], [145, 146], [144, 147], [148]] [] [[]] [0, 0, 0, 0, 0, 0, 0, 0] [0, 0, 0, 0, 0, 0, 0, 0] [] (fun u => by simp only [lwSc, AK.temps, List.map_cons, List.map_nil, fillL, List.setIfInBounds_toArray, List.set_cons_zero, List.set_cons_succ]; rfl) (by kernel_rfl) (by kernel_rfl) (fun _ _ h => h.size) (fun _ _ h => h) (fun _ _ _ _ hb h => h.trans (hb.mono h.size)) (dc_drew (Below.refl _ _)) ?_ ?_
      ·refine AK.sc (lim := 0) (lo := 0) rfl rfl rfl rfl ?_ ?_
       ·intro k_ u w_ hk_ hl_ hJ hF K hK
        clear hF
        go_simp
        exact hK.out _ _ (Below.refl _ _) (rfl) trivial
       refine AK.sc (lim := 0) (lo := 0) rfl rfl rfl rfl ?_ ?_
       ·intro k_ u w_ hk_ hl_ hJ hF K hK
        clear hF
        refine wp_load_if_ 46 _ rfl (.pointer (some ⟨s0 + 1, 0, none⟩)) rfl XV (HLX.out _ (HJ.out.up hJ).low) ?_
        exact hK.out _ _ (Below.refl _ _) rfl trivial
       refine AK.sc (lim := 0) (lo := 0) rfl rfl rfl rfl ?_ ?_
       ·intro k_ u w_ hk_ hl_ hJ hF K hK
        have h142 : u 142 = .pointer (some ⟨j.b, 0, none⟩) := AK.facts_get hF 142 (by simp)
        have h143 : u 143 = XV := AK.facts_get hF 143 (by simp)
        clear hF
        simp only [h142, h143] at hK ⊢
        clear h142 h143
        go_simp
        refine (HCP.out _ (HJ.out.up hJ).lk).mono ?_
        rintro r v6 ⟨rfl, hb6⟩
        exact hK.out _ _ hb6 rfl trivial
       refine AK.sc (lim := 0) (lo := 0) rfl rfl rfl rfl ?_ ?_
       ·intro k_ u w_ hk_ hl_ hJ hF K hK
        clear hF
        refine wp_load_if_ 69 _ rfl (.pointer (some ⟨s9, 0, none⟩)) rfl RW (HLW.out _ (HJ.out.up hJ).bx) ?_
        exact hK.out _ _ (Below.refl _ _) rfl trivial
       refine AK.sc (lim := 0) (lo := 0) rfl rfl rfl rfl ?_ ?_
       ·intro k_ u w_ hk_ hl_ hJ hF K hK
        clear hF
        refine wp_load_if_ 46 _ rfl (.pointer (some ⟨s0 + 1, 0, none⟩)) rfl XV (HLX.out _ (HJ.out.up hJ).low) ?_
        exact hK.out _ _ (Below.refl _ _) rfl trivial
       refine AK.sc (lim := 0) (lo := 0) rfl rfl rfl rfl ?_ ?_
       ·intro k_ u w_ hk_ hl_ hJ hF K hK
        have h145 : u 145 = RW := AK.facts_get hF 145 (by simp)
        have h146 : u 146 = XV := AK.facts_get hF 146 (by simp)
        clear hF
        simp only [h145, h146] at hK ⊢
        clear h145 h146
        go_simp
        refine (HCR.out _ (HJ.out.up hJ).row).mono ?_
        rintro r v6 ⟨rfl, hb6⟩
        exact hK.out _ _ hb6 rfl trivial
       refine AK.sc (lim := 0) (lo := 0) rfl rfl rfl rfl ?_ ?_
       ·intro k_ u w_ hk_ hl_ hJ hF K hK
        have h144 : u 144 = .int .i64 CH := AK.facts_get hF 144 (by simp)
        have h147 : u 147 = .int .i64 CH := AK.facts_get hF 147 (by simp)
        clear hF
        simp only [h144, h147] at hK ⊢
        clear h144 h147
        go_simp
        exact hK.out _ _ (Below.refl _ _) (rfl) trivial
       refine AK.sc (lim := 0) (lo := 0) rfl rfl rfl rfl ?_ ?_
       ·intro k_ u w_ hk_ hl_ hJ hF K hK
        have h148 : u 148 = .bool true := AK.facts_get hF 148 (by simp)
        clear hF
        simp only [h148] at hK ⊢
        clear h148
        go_simp
        exact hK.out _ _ (Below.refl _ _) (rfl) trivial
       exact AK.StepsOk.nil
      ·intro u W9 hJ9 hF
       have h6 : u 6 = .bool true := AK.facts_get hF 6 (by simp [lwSc, AK.temps])
       clear hF
       have HJ9 := Lib.hid (HJ.out.up hJ9)
       simp only [h6]
       clear hJ9 h6
       go_wp2_with fail
       go_ret
       exact ⟨by first | rfl | simp, (by have h9 := HB2.out.trans (HJ9.out.low.mono HB2.out.size); first | exact h9 | (rw [← HS0.out]; exact h9))⟩
  ·have hlz : decide ((n : Int) > 30) = true := decide_eq_true (by omega)
   have hly : decide ((30 : Int) < (n : Int)) = true := decide_eq_true (by omega)
   clear hl
   go_enter Tryz.func7, Tryz.ntmps7
   go_wp2_with (first
    | (go_at_call 27; refine (HAW.out _).mono ?_; rintro e w3 ⟨rfl, hb⟩; have hB3 := Lib.hid (HBC.out.trans (hb.mono HBC.out.size)); clear hb HBC; have HBC := hB3; clear hB3)
    | (clear HM1; refine wpList_load_if (by rfl) 29 _ rfl (.pointer (some ⟨s0, 0, none⟩)) rfl GV (HLG.out _ HBC.out) ?_)
    | (go_at_call 28; refine (HFW.out _ (HKC.out.up HBC.out).he).mono ?_; rintro e w3 ⟨rfl, hb⟩; have hB3 := Lib.hid (HBC.out.trans (hb.mono HBC.out.size)); clear hb HBC; have HBC := hB3; clear hB3))
   go_ret
   exact ⟨by first | rfl | simp, (by have h9 := HB2.out.trans (HBC.out.mono HB2.out.size); first | exact h9 | (rw [← HS0.out]; exact h9))⟩
end Go.Proofs.YtaeccljkmijpaaaGreat
