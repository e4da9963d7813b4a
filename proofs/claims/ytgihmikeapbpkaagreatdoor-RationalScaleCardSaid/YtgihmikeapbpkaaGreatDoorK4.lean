/- Contracts of the functions that the statements reach, part 4: what was proved of each, callees first. -/
import Derived.Deep.RegionWith
import Derived.Deep.RegionHeld3
import Derived.Deep.CutRange
import Derived.Test.YtgihmikeapbpkaaGreatDoorK3
namespace Go.Proofs.YtgihmikeapbpkaaGreatDoor
def Lim4 (L : List Nat) : Prop := ∀ d ∈ L, d < 10000
theorem Lim4.nth {L : List Nat} (h : Lim4 L) (k : Nat) : nth L k < 10000 := nth_all h (by omega) k
theorem Lim4.set {L : List Nat} (h : Lim4 L) (i : Nat) {x : Nat} (hx : x < 10000) : Lim4 (L.set i x) := fun d hd => by
 rcases List.mem_or_eq_of_mem_set hd with h1 | h1
 ·exact h d h1
 ·omega
theorem Lim4.take {L : List Nat} (h : Lim4 L) (n : Nat) : Lim4 (L.take n) := fun d hd => h d (List.mem_of_mem_take hd)
def mulRow4 (x o : Nat) (B M : List Nat) : Nat → List Nat × Nat
 | 0 => (M, 0)
 | j + 1 => ((mulRow4 x o B M j).1.set (o + j) ((nth (mulRow4 x o B M j).1 (o + j) + x * nth B j + (mulRow4 x o B M j).2) % 10000),
   (nth (mulRow4 x o B M j).1 (o + j) + x * nth B j + (mulRow4 x o B M j).2) / 10000)
theorem mulRow_succ4 (x o : Nat) (B M : List Nat) (j : Nat) : mulRow4 x o B M (j + 1) =
  ((mulRow4 x o B M j).1.set (o + j) ((nth (mulRow4 x o B M j).1 (o + j) + x * nth B j + (mulRow4 x o B M j).2) % 10000),
   (nth (mulRow4 x o B M j).1 (o + j) + x * nth B j + (mulRow4 x o B M j).2) / 10000) := rfl
theorem mul_lt_lim4 {x y : Nat} (hx : x < 10000) (hy : y < 10000) : x * y ≤ 99980001 := by
 have : x * y ≤ 9999 * 9999 := Nat.mul_le_mul (by omega) (by omega)
 omega
theorem mul_lt_limI4 {x y : Nat} (hx : x < 10000) (hy : y < 10000) : (x : Int) * (y : Int) ≤ 99980001 := by
 have h := mul_lt_lim4 hx hy
 have e : ((x * y : Nat) : Int) = (x : Int) * (y : Int) := by simp
 omega
theorem mul_nonnegI4 (x y : Nat) : 0 ≤ (x : Int) * (y : Int) := by
 have e : ((x * y : Nat) : Int) = (x : Int) * (y : Int) := by simp
 omega
theorem mulRow_ok4 {x o : Nat} {B M : List Nat} (hx : x < 10000) (hB : Lim4 B) (hM : Lim4 M) (j : Nat) :
  Lim4 (mulRow4 x o B M j).1 ∧ (mulRow4 x o B M j).2 < 10000 ∧ (mulRow4 x o B M j).1.length = M.length := by
 induction j with
 | zero => exact ⟨hM, by simp [mulRow4], rfl⟩
 | succ j ih =>
  obtain ⟨h1, h2, h3⟩ := ih
  have a := h1.nth (o + j)
  have b := mul_lt_lim4 hx (hB.nth j)
  rw [mulRow_succ4]
  exact ⟨h1.set _ (Nat.mod_lt _ (by omega)), by show _ / _ < _; omega, by simp [h3]⟩
def mulSt4 (A B M : List Nat) : Nat → List Nat
 | 0 => M
 | i + 1 => (mulRow4 (nth A i) i B (mulSt4 A B M i) B.length).1.set (i + B.length) (mulRow4 (nth A i) i B (mulSt4 A B M i) B.length).2
theorem mulSt_succ4 (A B M : List Nat) (i : Nat) : mulSt4 A B M (i + 1) =
  (mulRow4 (nth A i) i B (mulSt4 A B M i) B.length).1.set (i + B.length) (mulRow4 (nth A i) i B (mulSt4 A B M i) B.length).2 := rfl
theorem mulSt_ok4 {A B M : List Nat} (hA : Lim4 A) (hB : Lim4 B) (hM : Lim4 M) (i : Nat) : Lim4 (mulSt4 A B M i) ∧ (mulSt4 A B M i).length = M.length := by
 induction i with
 | zero => exact ⟨hM, rfl⟩
 | succ i ih =>
  obtain ⟨a, b, c⟩ := mulRow_ok4 (o := i) (hA.nth i) hB ih.1 B.length
  rw [mulSt_succ4]
  exact ⟨a.set _ b, by simp [c, ih.2]⟩
theorem mulRow_val4 {x o : Nat} {B M : List Nat} (ho : o + B.length ≤ M.length) (j : Nat) (hj : j ≤ B.length) (hM : Lim4 M) (hB : Lim4 B) (hx : x < 10000) :
  valB 10000 (mulRow4 x o B M j).1 + 10000 ^ (o + j) * (mulRow4 x o B M j).2 = valB 10000 M + 10000 ^ o * (x * valB 10000 (B.take j)) := by
 induction j with
 | zero => simp [mulRow4, valB]
 | succ j ih =>
  replace ih := ih (by omega)
  have hl := (mulRow_ok4 (o := o) hx hB hM j).2.2
  rw [mulRow_succ4, valB_take_succ _ _ _ (by omega)]
  have hs := valB_set 10000 (mulRow4 x o B M j).1 (o + j) ((nth (mulRow4 x o B M j).1 (o + j) + x * nth B j + (mulRow4 x o B M j).2) % 10000) (by omega)
  generalize mulRow4 x o B M j = q at *
  obtain ⟨Q, y⟩ := q
  dsimp only at *
  have ht := Nat.div_add_mod (nth Q (o + j) + x * nth B j + y) 10000
  generalize (nth Q (o + j) + x * nth B j + y) % 10000 = r at *
  generalize (nth Q (o + j) + x * nth B j + y) / 10000 = c at *
  generalize valB 10000 (Q.set (o + j) r) = V at *
  generalize valB 10000 Q = VQ at *
  generalize valB 10000 M = VM at *
  generalize valB 10000 (B.take j) = VB at *
  generalize nth B j = bj at *
  generalize nth Q (o + j) = qj at *
  rw [← Nat.add_assoc, Nat.pow_succ]
  have e : (10000 : Nat) ^ (o + j) = 10000 ^ o * 10000 ^ j := Nat.pow_add _ _ _
  rw [e] at hs ih ⊢
  generalize (10000 : Nat) ^ o = po at *
  generalize (10000 : Nat) ^ j = pj at *
  have h1 : po * pj * (10000 * c + r) = po * pj * (qj + x * bj + y) := by rw [ht]
  clear ht e hl hj ho hx hB hM
  grind
theorem mulRow_high4 {x o : Nat} {B M : List Nat} (j k : Nat) (hk : o + j ≤ k) : nth (mulRow4 x o B M j).1 k = nth M k := by
 induction j with
 | zero => rfl
 | succ j ih => rw [mulRow_succ4]; rw [nth_set_ne (by omega)]; exact ih (by omega)
theorem mulSt_val4 {A B M : List Nat} (hA : Lim4 A) (hB : Lim4 B) (hM : Lim4 M) (hz : ∀ k, nth M k = 0) (hl : M.length = A.length + B.length) (h0 : valB 10000 M = 0) (i : Nat) (hi : i ≤ A.length) :
  valB 10000 (mulSt4 A B M i) = valB 10000 (A.take i) * valB 10000 B ∧ (∀ k, i + B.length ≤ k → nth (mulSt4 A B M i) k = 0) := by
 induction i with
 | zero => exact ⟨by simp [mulSt4, valB, h0], fun k _ => hz k⟩
 | succ i ih =>
  obtain ⟨ih1, ih2⟩ := ih (by omega)
  have hok := mulSt_ok4 hA hB hM i
  have hr := mulRow_val4 (x := nth A i) (o := i) (B := B) (M := mulSt4 A B M i) (by rw [hok.2]; omega) B.length (Nat.le_refl _) hok.1 hB (hA.nth i)
  have hro := mulRow_ok4 (x := nth A i) (o := i) (hA.nth i) hB hok.1 B.length
  have hh := mulRow_high4 (x := nth A i) (o := i) (B := B) (M := mulSt4 A B M i) B.length (i + B.length) (Nat.le_refl _)
  have hh2 := fun k hk => mulRow_high4 (x := nth A i) (o := i) (B := B) (M := mulSt4 A B M i) B.length k hk
  rw [ih2 _ (Nat.le_refl _)] at hh
  rw [mulSt_succ4, valB_take_succ _ _ _ (by omega)]
  have hs := valB_set 10000 (mulRow4 (nth A i) i B (mulSt4 A B M i) B.length).1 (i + B.length) (mulRow4 (nth A i) i B (mulSt4 A B M i) B.length).2 (by rw [hro.2.2, hok.2]; omega)
  refine ⟨?_, fun k hk => ?_⟩
  ·rw [hh] at hs
   rw [List.take_of_length_le (Nat.le_refl _)] at hr
   generalize valB 10000 ((mulRow4 (nth A i) i B (mulSt4 A B M i) B.length).1.set (i + B.length) (mulRow4 (nth A i) i B (mulSt4 A B M i) B.length).2) = V at *
   generalize valB 10000 (mulRow4 (nth A i) i B (mulSt4 A B M i) B.length).1 = V1 at *
   generalize 10000 ^ (i + B.length) * (mulRow4 (nth A i) i B (mulSt4 A B M i) B.length).2 = V2 at *
   rw [Nat.mul_zero, Nat.add_zero] at hs
   rw [hs, hr, ih1, Nat.add_mul, Nat.mul_assoc]
  ·rw [nth_set_ne (by omega), hh2 k (by omega)]
   exact ih2 k (by omega)
theorem mul_val4 {A B : List Nat} (hA : Lim4 A) (hB : Lim4 B) : valB 10000 (mulSt4 A B (List.replicate (A.length + B.length) 0) A.length) = valB 10000 A * valB 10000 B := by
 have := (mulSt_val4 (M := List.replicate (A.length + B.length) 0) hA hB (fun d hd => by have := (List.mem_replicate.1 hd).2; omega) (nth_zeros _) (by simp) (valB_zeros _ _) A.length (Nat.le_refl _)).1
 rwa [List.take_of_length_le (Nat.le_refl _)] at this
open Go.RowKit
set_option maxHeartbeats 1600000 in
theorem rmul_walk (A A' : Option Addr) (c c' : Nat) (L M : List Nat) (w : World) (hl : L.length ≤ 1000000) (hml : M.length ≤ 1000000)
  (hL : Lim4 L) (hM : Lim4 M) (hR : Row .i64 w w.heap.size A c L) (hR' : Row .i64 w w.heap.size A' c' M) :
  Calls Tryz.prog 118 #[.slice A L.length c, .slice A' M.length c'] w fun e w' =>
   e = .returned (.slice (some ⟨w.heap.size, 0, none⟩) (trimN (mulSt4 L M (List.replicate (L.length + M.length) 0) L.length) (L.length + M.length)) (L.length + M.length)) ∧
    Blk .i64 3 w' w.heap.size (mulSt4 L M (List.replicate (L.length + M.length) 0) L.length) ∧ Below w.heap.size w w' := by
 obtain ⟨i0, hi, hz0, hz1, hz2⟩ := info_parts info3
 have hZ : Lim4 (List.replicate (L.length + M.length) 0) := fun d hd => by have := (List.mem_replicate.1 hd).2; omega
 have hZl : (List.replicate (L.length + M.length) 0).length = L.length + M.length := by simp
 generalize hz : List.replicate (L.length + M.length) 0 = Z at *
 generalize hl' : L.length = l at *
 generalize hm' : M.length = m at *
 have HL := Lib.hid hl'
 have HM := Lib.hid hm'
 have HZ := Lib.hid hz
 have HZL := Lib.hid hZl
 clear hl' hm' hz hZl
 go_enter Tryz.func118, Tryz.ntmps118
 go_wp2_with (first
  | (refine wpList_make_zeros _ rfl (.tmp 14) (.tmp 14) 31 rfl 3 .i64 i0 8 Tryz.underlying31 hi hz0 hz1 hz2 .i64 .i64 _ _ (l + m) rfl rfl (by omega) (by omega) (by omega) (by omega) ?_; intro w1 hb1 hB1 hs1)
  | fail)
 have hb1' := hb1.out
 rw [HZ.out] at hb1'
 have hg := hb1'.lt
 clear hs1 hb1
 go_loopw [6] (fun iv wr => ∃ i : Nat, i ≤ l ∧ iv = .int .i64 i ∧ Blk .i64 3 wr w.heap.size (mulSt4 L M Z i) ∧ w1.grownBy wr (some w.heap.size)) (fun iv _ => l - (intOf iv).toNat)
 case atStart => exact ⟨0, Nat.zero_le _, rfl, hb1', grown_refl _ _⟩
 case round =>
  obtain ⟨i, hk, rfl, hb, hgr⟩ := hrel
  obtain ⟨h1, h2⟩ := mulSt_ok4 hL hM hZ i
  have HS := Lib.hid (mulSt_succ4 L M Z i)
  have h3 : (mulSt4 L M Z i).length = l + m := by rw [h2, HZL.out]
  clear h2
  generalize hs : mulSt4 L M Z i = S at *
  have HK := Lib.hid hs
  have H3 := Lib.hid h3
  clear hs h3
  by_cases hlt : i < l
  ·obtain ⟨b, o, rfl, hbg, hcell⟩ := hR.spot (by rw [HL.out]; omega)
   have hx := hL.nth i
   have hcell2 := hcell.below hB1 hbg
   generalize hxx : nth L i = x at *
   have HX := Lib.hid hxx
   clear hcell hxx
   go_wp2
   have hbS := hb
   go_loopw [7, 8] (fun cv jv wq => ∃ j : Nat, j ≤ m ∧ jv = .int .i64 j ∧ cv = .int .i64 (mulRow4 x i M S j).2 ∧ Blk .i64 3 wq w.heap.size (mulRow4 x i M S j).1 ∧ w1.grownBy wq (some w.heap.size)) (fun _ jv _ => m - (intOf jv).toNat)
   case atStart => exact ⟨0, Nat.zero_le _, rfl, rfl, hbS, hgr⟩
   case round =>
    obtain ⟨j, hj, rfl, rfl, hbq, hgq⟩ := hrel
    obtain ⟨g1, g2, g3⟩ := mulRow_ok4 (o := i) hx hM h1 j
    have HS' := Lib.hid (mulRow_succ4 x i M S j)
    generalize hq : mulRow4 x i M S j = q at *
    have HQ := Lib.hid hq
    clear hq
    obtain ⟨Q, y⟩ := q
    dsimp only at *
    rw [H3.out] at g3
    have G3 := Lib.hid g3
    clear g3
    by_cases hjt : j < m
    ·obtain ⟨b', o', rfl, hbg', hcell'⟩ := hR'.spot (by rw [HM.out]; omega)
     have hcy := ((hcell'.below hB1 hbg').grown hgq (by omega) (by intro e; injection e; omega)) j (by rw [HM.out]; exact hjt)
     have hcx := (hcell2.grown hgq (by omega) (by intro e; injection e; omega)) i (by rw [HL.out]; exact hlt)
     rw [HX.out] at hcx
     have hc := hbq.cell (i + j) (by rw [G3.out]; omega)
     have hfr := hbq.frozen (i + j)
     have b1 := g1.nth (i + j)
     have b2 := hM.nth j
     have b4 := mul_lt_limI4 hx b2
     have b5 := mul_nonnegI4 x (nth M j)
     clear hcell' hcell2
     go_wp2
     go_quiet (fail)
     go_wp2
     go_roundw
     case rel =>
      have E := HS'.out
      have e1 := (hbq.drewN nq).setI (i + j) (v := ((nth Q (i + j) : Int) + (x : Int) * (nth M j : Int) + (y : Int)) % 10000) (x := (nth Q (i + j) + x * nth M j + y) % 10000) (by simp)
      exact ⟨j + 1, by omega, by go_num, by rw [E]; simp, by rw [E]; exact e1, grown_set (grown_drewN hgq _) _ _⟩
     case measure => simp [intOf]; omega
    ·obtain rfl : j = m := by omega
     have hc := hbq.cell (i + j) (by rw [G3.out]; omega)
     have hfr := hbq.frozen (i + j)
     go_wp2
     go_roundw
     case rel =>
      have E := HS.out
      rw [HM.out, HQ.out] at E
      exact ⟨i + 1, by omega, by go_num, by rw [E]; exact hbq.set_ _ _, grown_set hgq _ _⟩
     case measure => simp [intOf]; omega
  ·obtain rfl : i = l := by omega
   have hT := rtrim_any (some ⟨w.heap.size, 0, none⟩) (i + m) S wr wr.heap.size (by rw [H3.out]; omega) (Row.ofBlk hb hb.lt (by rw [H3.out]; exact Nat.le_refl _))
   rw [H3.out] at hT
   have hB : Below w.heap.size w wr := grown_below hB1 hgr (Nat.le_refl _) hB1.size
   have hb9 := Lib.hid hb
   have HT := Lib.hid hT
   clear hT hb
   go_wp2_with fail
   refine HT.out.mono ?_
   rintro e w4 ⟨rfl, rfl⟩
   go_wp2_with fail
   go_ret
   have hk' := HK.out
   rw [hk']
   exact ⟨rfl, hb9.out, hB⟩
abbrev val4 (L : List Nat) : Nat := valB 10000 L
def zR (neg : Bool) (L : List Nat) : Int := if neg then -(val4 L : Int) else (val4 L : Int)
theorem trim_pack4 {w : World} {g B c : Nat} {R : List Nat} (hb : Blk .i64 3 w g R) (hR : ∀ d ∈ R, d < 10000) (hg : g < B) (hc : R.length ≤ c) :
  ∃ L, L.length = trimN R R.length ∧ Row .i64 w B (some ⟨g, 0, none⟩) c L ∧ (∀ d ∈ L, d < 10000) ∧ (0 < L.length → nth L (L.length - 1) ≠ 0) ∧ val4 L = val4 R := by
 have htl := trimN_le R R.length
 have el : (R.take (trimN R R.length)).length = trimN R R.length := by rw [List.length_take]; omega
 refine ⟨R.take (trimN R R.length), el, (Row.ofBlk hb hg hc).take _, fun d hd => hR d (List.mem_of_mem_take hd), ?_, ?_⟩
 ·rw [el]; intro h; rw [nth_take (by omega)]; exact trimN_top _ _ h
 ·rw [val4, trimN_val _ _ _ (Nat.le_refl _), List.take_of_length_le (Nat.le_refl _)]
theorem trimN_same {L : List Nat} (h : 0 < L.length → nth L (L.length - 1) ≠ 0) : trimN L L.length = L.length := by
 rcases hl : L.length with _ | n
 ·rfl
 ·rw [trimN, if_neg]
  have := h (by omega)
  rw [hl] at this
  exact this
theorem rmul2 (A A' : Option Addr) (c c' : Nat) (L M : List Nat) (w : World) (hl : L.length ≤ 500000) (hml : M.length ≤ 500000)
  (hL : ∀ d ∈ L, d < 10000) (hM : ∀ d ∈ M, d < 10000) (hR : Row .i64 w w.heap.size A c L) (hR' : Row .i64 w w.heap.size A' c' M) :
  Calls Tryz.prog 118 #[.slice A L.length c, .slice A' M.length c'] w fun e w' => ∃ g c R, e = .returned (.slice (some ⟨g, 0, none⟩) R.length c) ∧
   Row .i64 w' w'.heap.size (some ⟨g, 0, none⟩) c R ∧ (∀ d ∈ R, d < 10000) ∧ (0 < R.length → nth R (R.length - 1) ≠ 0) ∧ val4 R = val4 L * val4 M ∧ R.length ≤ L.length + M.length ∧ Below w.heap.size w w' ∧ w.heap.size ≤ g := by
 refine (rmul_walk A A' c c' L M w (by omega) (by omega) hL hM hR hR').mono ?_
 rintro e w' ⟨rfl, hb, hbw⟩
 have hz : Lim4 (List.replicate (L.length + M.length) 0) := fun d hd => by have := (List.mem_replicate.1 hd).2; omega
 have hok := mulSt_ok4 hL hM hz L.length
 have hv := mul_val4 hL hM
 have hlen : (mulSt4 L M (List.replicate (L.length + M.length) 0) L.length).length = L.length + M.length := by rw [hok.2]; simp
 obtain ⟨R, h1, h2, h3, h3', h4⟩ := trim_pack4 (c := L.length + M.length) hb hok.1 hb.lt (by omega)
 rw [hlen] at h1
 have htl := trimN_le (mulSt4 L M (List.replicate (L.length + M.length) 0) L.length) (L.length + M.length)
 exact ⟨_, _, R, by rw [h1], h2, h3, h3', by rw [h4]; exact hv, by omega, hbw, Nat.le_refl _⟩
theorem val4_nil {L : List Nat} (h : L.length = 0) : val4 L = 0 := by rw [List.eq_nil_of_length_eq_zero h]; rfl
theorem rsigned_trim (neg : Bool) (A : Option Addr) (c : Nat) (L : List Nat) (w : World) {n : Nat} (hl : L.length ≤ n) (ht : 0 < L.length → nth L (L.length - 1) ≠ 0) (hR : Row .i64 w w.heap.size A c L) (hn : n ≤ 4000000 := by omega) :
  Calls Tryz.prog 109 #[.bool neg, .slice A L.length c] w fun e w' => e = .returned (.agg #[.bool (neg && decide (0 < L.length)), .slice A L.length c]) ∧ Below w.heap.size w w' := by
 have := rsigned_any neg A c L w (by omega) hR
 rwa [trimN_same ht] at this
def textZ (l : List UInt8) : Int := if negOf l then -(numOf (restOf l) : Int) else (numOf (restOf l) : Int)
theorem textZ_I {l : List UInt8} {k : Bool} {L : List Nat} (h1 : k = negOf l) (h2 : val9 L = numOf (restOf l)) : zI k L = textZ l := by unfold zI textZ; rw [h1, h2]
theorem textZ_R {l : List UInt8} {k : Bool} {L : List Nat} (h1 : k = negOf l) (h2 : valB 10000 L = numOf (restOf l)) : zR k L = textZ l := by unfold zR textZ val4; rw [h1, h2]
def raSt (A B : List Nat) : Nat → List Nat × Nat
 | 0 => ([], 0)
 | k + 1 => ((raSt A B k).1 ++ [((raSt A B k).2 + nth A k + nth B k) % 10000], ((raSt A B k).2 + nth A k + nth B k) / 10000)
theorem raSt_succ (A B : List Nat) (k : Nat) : raSt A B (k + 1) = ((raSt A B k).1 ++ [((raSt A B k).2 + nth A k + nth B k) % 10000], ((raSt A B k).2 + nth A k + nth B k) / 10000) := rfl
theorem raSt_ok {A B : List Nat} (hA : Lim4 A) (hB : Lim4 B) (k : Nat) : Lim4 (raSt A B k).1 ∧ (raSt A B k).2 ≤ 1 ∧ (raSt A B k).1.length = k := by
 induction k with
 | zero => exact ⟨fun _ h => absurd h (List.not_mem_nil), by simp [raSt], rfl⟩
 | succ k ih =>
  obtain ⟨h1, h2, h3⟩ := ih
  have a := hA.nth k
  have b := hB.nth k
  rw [raSt_succ]
  refine ⟨fun d hd => ?_, by show _ / _ ≤ _; omega, by simp [h3]⟩
  rcases List.mem_append.1 hd with h | h
  ·exact h1 d h
  ·rw [List.mem_singleton] at h; subst h; exact Nat.mod_lt _ (by omega)
theorem take_val (b : Nat) (B : List Nat) (k : Nat) : valB b (B.take (k + 1)) = valB b (B.take k) + b ^ k * nth B k := by
 rcases Nat.lt_or_ge k B.length with h | h
 ·exact valB_take_succ _ _ _ h
 ·rw [valB_take_over _ _ _ h, valB_take_over _ _ _ (by omega), nth_ge h]; simp
theorem raSt_val {A B : List Nat} (hA : Lim4 A) (hB : Lim4 B) (k : Nat) : valB 10000 (raSt A B k).1 + 10000 ^ k * (raSt A B k).2 = valB 10000 (A.take k) + valB 10000 (B.take k) := by
 induction k with
 | zero => simp [raSt, valB]
 | succ k ih =>
  have hl := (raSt_ok hA hB k).2.2
  rw [raSt_succ, take_val, take_val]
  dsimp only
  rw [valB_append, hl]
  generalize raSt A B k = q at *
  obtain ⟨Q, y⟩ := q
  dsimp only at *
  have ht := Nat.div_add_mod (y + nth A k + nth B k) 10000
  generalize (y + nth A k + nth B k) % 10000 = r at *
  generalize (y + nth A k + nth B k) / 10000 = c at *
  simp only [valB, Nat.mul_zero, Nat.add_zero]
  rw [Nat.pow_succ]
  generalize (10000 : Nat) ^ k = p at *
  have h1 : p * (10000 * c + r) = p * (y + nth A k + nth B k) := by rw [ht]
  clear ht hl hA hB
  grind
def rsSt (A B : List Nat) : Nat → List Nat × Nat
 | 0 => ([], 0)
 | k + 1 => if nth A k < (rsSt A B k).2 + nth B k
   then ((rsSt A B k).1 ++ [nth A k + 10000 - ((rsSt A B k).2 + nth B k)], 1)
   else ((rsSt A B k).1 ++ [nth A k - ((rsSt A B k).2 + nth B k)], 0)
theorem rsSt_succ (A B : List Nat) (k : Nat) : rsSt A B (k + 1) = if nth A k < (rsSt A B k).2 + nth B k
      then ((rsSt A B k).1 ++ [nth A k + 10000 - ((rsSt A B k).2 + nth B k)], 1)
      else ((rsSt A B k).1 ++ [nth A k - ((rsSt A B k).2 + nth B k)], 0) := rfl
theorem rsSt_ok {A B : List Nat} (hA : Lim4 A) (hB : Lim4 B) (k : Nat) : Lim4 (rsSt A B k).1 ∧ (rsSt A B k).2 ≤ 1 ∧ (rsSt A B k).1.length = k := by
 induction k with
 | zero => exact ⟨fun _ h => absurd h (List.not_mem_nil), by simp [rsSt], rfl⟩
 | succ k ih =>
  obtain ⟨h1, h2, h3⟩ := ih
  have a := hA.nth k
  have b := hB.nth k
  rw [rsSt_succ]
  split
  ·refine ⟨fun d hd => ?_, by simp, by simp [h3]⟩
   rcases List.mem_append.1 hd with h | h
   ·exact h1 d h
   ·rw [List.mem_singleton] at h; omega
  ·refine ⟨fun d hd => ?_, by simp, by simp [h3]⟩
   rcases List.mem_append.1 hd with h | h
   ·exact h1 d h
   ·rw [List.mem_singleton] at h; omega
theorem rsSt_val {A B : List Nat} (hA : Lim4 A) (hB : Lim4 B) (k : Nat) : valB 10000 (rsSt A B k).1 + valB 10000 (B.take k) = valB 10000 (A.take k) + 10000 ^ k * (rsSt A B k).2 := by
 induction k with
 | zero => simp [rsSt, valB]
 | succ k ih =>
  obtain ⟨h1, h2, hl⟩ := rsSt_ok hA hB k
  have b := hB.nth k
  rw [rsSt_succ, take_val, take_val]
  generalize rsSt A B k = q at *
  obtain ⟨Q, y⟩ := q
  dsimp only at *
  rw [Nat.pow_succ]
  split
  ·rename_i hlt
   dsimp only
   rw [valB_append, hl]
   simp only [valB, Nat.mul_zero, Nat.add_zero]
   obtain ⟨v, hv⟩ : ∃ v, nth A k + 10000 - (y + nth B k) = v := ⟨_, rfl⟩
   have hv2 : v + (y + nth B k) = nth A k + 10000 := by omega
   rw [hv]
   generalize (10000 : Nat) ^ k = p at *
   have h3 : p * (v + (y + nth B k)) = p * (nth A k + 10000) := by rw [hv2]
   clear hv hv2 hl h1 h2 hA hB b hlt
   grind
  ·rename_i hge
   dsimp only
   rw [valB_append, hl]
   simp only [valB, Nat.mul_zero, Nat.add_zero]
   obtain ⟨v, hv⟩ : ∃ v, nth A k - (y + nth B k) = v := ⟨_, rfl⟩
   have hv2 : v + (y + nth B k) = nth A k := by omega
   rw [hv]
   generalize (10000 : Nat) ^ k = p at *
   have h3 : p * (v + (y + nth B k)) = p * nth A k := by rw [hv2]
   clear hv hv2 hl h1 h2 hA hB b hge
   grind
set_option maxRecDepth 20000 in
set_option maxHeartbeats 1600000 in
theorem radd_walk (A A' : Option Addr) (c c' : Nat) (L M : List Nat) (w : World) (hl : L.length ≤ 1000000) (hml : M.length ≤ 1000000)
  (hL : Lim4 L) (hM : Lim4 M) (hR : Row .i64 w w.heap.size A c L) (hR' : Row .i64 w w.heap.size A' c' M) :
  Calls Tryz.prog 115 #[.slice A L.length c, .slice A' M.length c'] w fun e w' => ∃ v k, e = .returned v ∧ L.length ≤ k ∧ M.length ≤ k ∧ k ≤ L.length + M.length + 1 ∧ (raSt L M k).2 = 0 ∧ Own .i64 3 w' w.heap.size v (raSt L M k).1 ∧ Below w.heap.size w w' := by
 obtain ⟨i0, hi, hz0, hz1, hz2⟩ := info_parts info3
 obtain ⟨mx, hx1, hx2, hx3⟩ : ∃ mx, L.length ≤ mx ∧ M.length ≤ mx ∧ (mx = L.length ∨ mx = M.length) := ⟨max L.length M.length, by omega, by omega, by omega⟩
 have hx4 : mx ≤ 1000000 := by omega
 have HX3 := Lib.hid hx3
 clear hx3
 generalize hl' : L.length = l at *
 generalize hm' : M.length = m at *
 have HL := Lib.hid hl'
 have HM := Lib.hid hm'
 clear hl' hm'
 go_enter Tryz.func115, Tryz.ntmps115
 go_wp2
 go_loopw [5, 6, 7] (fun ov cv iv wr => ∃ k : Nat, k ≤ mx + 1 ∧ iv = .int .i64 k ∧ cv = .int .i64 (raSt L M k).2 ∧ Own .i64 3 wr w.heap.size ov (raSt L M k).1 ∧ Below w.heap.size w wr ∧ Hid (mx < k → (raSt L M k).2 = 0)) (fun _ _ iv _ => mx + 1 - (intOf iv).toNat)
 case atStart => exact ⟨0, Nat.zero_le _, rfl, rfl, Own.nil _ _ _ _, Below.refl _ _, fun _ => rfl⟩
 case round =>
  obtain ⟨k, hk, rfl, rfl, ho, hbw, hc0⟩ := hrel
  obtain ⟨h1, h2, h3⟩ := raSt_ok hL hM k
  have HS := Lib.hid (raSt_succ L M k)
  have hsz := hbw.size
  have a1 := hL.nth k
  have a2 := hM.nth k
  generalize hs : raSt L M k = S at *
  have HK := Lib.hid hs
  clear hs
  obtain ⟨Q, y⟩ := S
  dsimp only at *
  have HO := Lib.hid ho
  have H3 := Lib.hid h3
  have hql : Q.length ≤ 100000000 := by omega
  have HQL := Lib.hid hql
  clear ho h3 hql
  have step : ∀ (v2 : Value) (w2 : World) (d y' : Nat), k < mx + 1 → d = (y + nth L k + nth M k) % 10000 → y' = (y + nth L k + nth M k) / 10000 → (mx ≤ k → nth L k = 0 ∧ nth M k = 0) → Own .i64 3 w2 w.heap.size v2 (Q ++ [d]) → Below w.heap.size wr w2 →
    (k + 1 ≤ mx + 1 ∧ y' = (raSt L M (k + 1)).2 ∧ Own .i64 3 w2 w.heap.size v2 (raSt L M (k + 1)).1 ∧ Below w.heap.size w w2 ∧ Hid (mx < k + 1 → (raSt L M (k + 1)).2 = 0)) := by
   intro v2 w2 d y' hk1 hd hy hzz hown hb2
   have E := HS.out
   subst hd
   subst hy
   refine ⟨by omega, by rw [E], by rw [E]; exact hown, hbw.trans hb2, fun hmk => ?_⟩
   obtain ⟨z1, z2⟩ := hzz (by omega)
   rw [E]
   dsimp only
   rw [z1, z2]
   omega
  have HST := Lib.hid step
  clear step
  have zL : ¬ k < l → nth L k = 0 := fun h => nth_ge (by rw [HL.out]; omega)
  have zM : ¬ k < m → nth M k = 0 := fun h => nth_ge (by rw [HM.out]; omega)
  have ZL := Lib.hid zL
  have ZM := Lib.hid zM
  clear zL zM
  by_cases hkl : k < l
  ·obtain ⟨b, o, rfl, hb, hcell⟩ := hR.spot (by rw [HL.out]; omega)
   have hc1 := (hcell.below hbw hb) k (by rw [HL.out]; exact hkl)
   clear hcell
   by_cases hkm : k < m
   ·obtain ⟨b', o', rfl, hb', hcell'⟩ := hR'.spot (by rw [HM.out]; omega)
    have hc2 := (hcell'.below hbw hb') k (by rw [HM.out]; exact hkm)
    clear hcell'
    go_wp2_with (at_builtin; refine wpList_append_num wr rfl (.tmp 46) (.tmp 49) 31 rfl .i64 w.heap.size 3 i0 8 Tryz.underlying31 hi hz0 hz1 hz2 (by omega) u5 _ (by rfl) HO.out _ ((y + nth L k + nth M k) % 10000) ?_ 1 rfl HQL.out ?_ ?_; (simp); (exact hsz); intro v2 w2 ho2 hb2)
    go_roundw
    case rel =>
     obtain ⟨r1, r2, r3, r4, r5⟩ := HST.out v2 w2 _ _ (by omega) rfl rfl (fun h => absurd h (by omega)) ho2.out hb2
     exact ⟨k + 1, r1, by go_num, by rw [← r2]; simp, r3, r4, r5⟩
    case measure => simp [intOf]; omega
   ·go_wp2_with (at_builtin; refine wpList_append_num wr rfl (.tmp 46) (.tmp 49) 31 rfl .i64 w.heap.size 3 i0 8 Tryz.underlying31 hi hz0 hz1 hz2 (by omega) u5 _ (by rfl) HO.out _ ((y + nth L k) % 10000) ?_ 1 rfl HQL.out ?_ ?_; (simp); (exact hsz); intro v2 w2 ho2 hb2)
    go_roundw
    case rel =>
     obtain ⟨r1, r2, r3, r4, r5⟩ := HST.out v2 w2 _ ((y + nth L k) / 10000) (by omega) (by rw [ZM.out hkm]; rfl) (by rw [ZM.out hkm]; rfl) (fun h => absurd h (by omega)) ho2.out hb2
     exact ⟨k + 1, r1, by go_num, by rw [← r2]; simp, r3, r4, r5⟩
    case measure => simp [intOf]; omega
  ·by_cases hkm : k < m
   ·obtain ⟨b', o', rfl, hb', hcell'⟩ := hR'.spot (by rw [HM.out]; omega)
    have hc2 := (hcell'.below hbw hb') k (by rw [HM.out]; exact hkm)
    clear hcell'
    go_wp2_with (at_builtin; refine wpList_append_num wr rfl (.tmp 46) (.tmp 49) 31 rfl .i64 w.heap.size 3 i0 8 Tryz.underlying31 hi hz0 hz1 hz2 (by omega) u5 _ (by rfl) HO.out _ ((y + nth M k) % 10000) ?_ 1 rfl HQL.out ?_ ?_; (simp); (exact hsz); intro v2 w2 ho2 hb2)
    go_roundw
    case rel =>
     obtain ⟨r1, r2, r3, r4, r5⟩ := HST.out v2 w2 _ ((y + nth M k) / 10000) (by omega) (by rw [ZL.out hkl, Nat.add_zero]) (by rw [ZL.out hkl, Nat.add_zero]) (fun h => absurd h (by omega)) ho2.out hb2
     exact ⟨k + 1, r1, by go_num, by rw [← r2]; simp, r3, r4, r5⟩
    case measure => simp [intOf]; omega
   ·rcases Nat.eq_zero_or_pos y with rfl | hy
    ·have hd0 : decide ((0 : Int) < ((0 : Nat) : Int)) = false := by simp
     go_wp2
     go_ret
     have hkk := HK.out
     refine ⟨_, rfl, k, by omega, by omega, ?_, by rw [hkk], by rw [hkk]; exact HO.out, hbw⟩
     rcases HX3.out with h | h <;> omega
    ·have hkx : k < mx + 1 := by
      rcases Nat.lt_or_ge mx k with h | h
      ·have := hc0.out h; omega
      ·omega
     have hy2 : (0 : Int) < (y : Int) := by omega
     go_wp2_with (at_builtin; refine wpList_append_num wr rfl (.tmp 46) (.tmp 49) 31 rfl .i64 w.heap.size 3 i0 8 Tryz.underlying31 hi hz0 hz1 hz2 (by omega) u5 _ (by rfl) HO.out _ (y % 10000) ?_ 1 rfl HQL.out ?_ ?_; (simp); (exact hsz); intro v2 w2 ho2 hb2)
     go_roundw
     case rel =>
      obtain ⟨r1, r2, r3, r4, r5⟩ := HST.out v2 w2 _ (y / 10000) hkx (by rw [ZL.out hkl, ZM.out hkm]; rfl) (by rw [ZL.out hkl, ZM.out hkm]; rfl) (fun _ => ⟨ZL.out hkl, ZM.out hkm⟩) ho2.out hb2
      exact ⟨k + 1, r1, by go_num, by rw [← r2]; simp, r3, r4, r5⟩
     case measure => simp [intOf]; omega
set_option maxRecDepth 20000 in
set_option maxHeartbeats 1600000 in
theorem rsub_walk (A A' : Option Addr) (c c' : Nat) (L M : List Nat) (w : World) (hl : L.length ≤ 1000000) (hml : M.length ≤ L.length)
  (hL : Lim4 L) (hM : Lim4 M) (hR : Row .i64 w w.heap.size A c L) (hR' : Row .i64 w w.heap.size A' c' M) :
  Calls Tryz.prog 117 #[.slice A L.length c, .slice A' M.length c'] w fun e w' => ∃ A2 c2, e = .returned (.slice A2 (trimN (rsSt L M L.length).1 L.length) c2) ∧ Row .i64 w' w'.heap.size A2 c2 (rsSt L M L.length).1 ∧ Below w.heap.size w w' := by
 obtain ⟨i0, hi, hz0, hz1, hz2⟩ := info_parts info3
 generalize hl' : L.length = l at *
 generalize hm' : M.length = m at *
 have HL := Lib.hid hl'
 have HM := Lib.hid hm'
 clear hl' hm'
 go_enter Tryz.func117, Tryz.ntmps117
 go_wp2
 go_loopw [5, 6, 7] (fun ov cv iv wr => ∃ k : Nat, k ≤ l ∧ iv = .int .i64 k ∧ cv = .int .i64 (rsSt L M k).2 ∧ Own .i64 3 wr w.heap.size ov (rsSt L M k).1 ∧ Below w.heap.size w wr) (fun _ _ iv _ => l - (intOf iv).toNat)
 case atStart => exact ⟨0, Nat.zero_le _, rfl, rfl, Own.nil _ _ _ _, Below.refl _ _⟩
 case round =>
  obtain ⟨k, hk, rfl, rfl, ho, hbw⟩ := hrel
  obtain ⟨h1, h2, h3⟩ := rsSt_ok hL hM k
  have HS := Lib.hid (rsSt_succ L M k)
  have hsz := hbw.size
  have a1 := hL.nth k
  have a2 := hM.nth k
  generalize hs : rsSt L M k = S at *
  have HK := Lib.hid hs
  clear hs
  obtain ⟨Q, y⟩ := S
  dsimp only at *
  have HO := Lib.hid ho
  have H3 := Lib.hid h3
  have hql : Q.length ≤ 100000000 := by omega
  have HQL := Lib.hid hql
  clear ho h3 hql
  have zM : ¬ k < m → nth M k = 0 := fun h => nth_ge (by rw [HM.out]; omega)
  have ZM := Lib.hid zM
  clear zM
  by_cases hkl : k < l
  ·obtain ⟨b, o, rfl, hb, hcell⟩ := hR.spot (by rw [HL.out]; omega)
   have hc1 := (hcell.below hbw hb) k (by rw [HL.out]; exact hkl)
   clear hcell
   by_cases hkm : k < m
   ·obtain ⟨b', o', rfl, hb', hcell'⟩ := hR'.spot (by rw [HM.out]; omega)
    have hc2 := (hcell'.below hbw hb') k (by rw [HM.out]; exact hkm)
    clear hcell'
    by_cases hbo : nth L k < y + nth M k
    ·go_wp2_with (at_builtin; refine wpList_append_num wr rfl (.tmp 35) (.tmp 37) 31 rfl .i64 w.heap.size 3 i0 8 Tryz.underlying31 hi hz0 hz1 hz2 (by omega) u5 _ (by rfl) HO.out _ (nth L k + 10000 - (y + nth M k)) ?_ 1 rfl HQL.out ?_ ?_; (omega); (exact hsz); intro v2 w2 ho2 hb2)
     go_roundw
     case rel =>
      have E := HS.out
      rw [if_pos hbo] at E
      exact ⟨k + 1, by omega, by go_num, by rw [E]; rfl, by rw [E]; exact ho2.out, hbw.trans hb2⟩
     case measure => simp [intOf]; omega
    ·go_wp2_with (at_builtin; refine wpList_append_num wr rfl (.tmp 35) (.tmp 37) 31 rfl .i64 w.heap.size 3 i0 8 Tryz.underlying31 hi hz0 hz1 hz2 (by omega) u5 _ (by rfl) HO.out _ (nth L k - (y + nth M k)) ?_ 1 rfl HQL.out ?_ ?_; (omega); (exact hsz); intro v2 w2 ho2 hb2)
     go_roundw
     case rel =>
      have E := HS.out
      rw [if_neg hbo] at E
      exact ⟨k + 1, by omega, by go_num, by rw [E]; rfl, by rw [E]; exact ho2.out, hbw.trans hb2⟩
     case measure => simp [intOf]; omega
   ·by_cases hbo : nth L k < y
    ·go_wp2_with (at_builtin; refine wpList_append_num wr rfl (.tmp 35) (.tmp 37) 31 rfl .i64 w.heap.size 3 i0 8 Tryz.underlying31 hi hz0 hz1 hz2 (by omega) u5 _ (by rfl) HO.out _ (nth L k + 10000 - y) ?_ 1 rfl HQL.out ?_ ?_; (omega); (exact hsz); intro v2 w2 ho2 hb2)
     go_roundw
     case rel =>
      have E := HS.out
      simp only [ZM.out hkm, Nat.add_zero] at E
      rw [if_pos hbo] at E
      exact ⟨k + 1, by omega, by go_num, by rw [E]; rfl, by rw [E]; exact ho2.out, hbw.trans hb2⟩
     case measure => simp [intOf]; omega
    ·go_wp2_with (at_builtin; refine wpList_append_num wr rfl (.tmp 35) (.tmp 37) 31 rfl .i64 w.heap.size 3 i0 8 Tryz.underlying31 hi hz0 hz1 hz2 (by omega) u5 _ (by rfl) HO.out _ (nth L k - y) ?_ 1 rfl HQL.out ?_ ?_; (omega); (exact hsz); intro v2 w2 ho2 hb2)
     go_roundw
     case rel =>
      have E := HS.out
      simp only [ZM.out hkm, Nat.add_zero] at E
      rw [if_neg hbo] at E
      exact ⟨k + 1, by omega, by go_num, by rw [E]; rfl, by rw [E]; exact ho2.out, hbw.trans hb2⟩
     case measure => simp [intOf]; omega
  ·obtain rfl : k = l := by omega
   obtain ⟨A2, c2, hv, hrow⟩ := HO.out.row
   subst hv
   have hT := rtrim_any A2 c2 Q wr wr.heap.size (by have := HQL.out; rw [H3.out]; omega) hrow
   rw [H3.out] at hT
   have HT := Lib.hid hT
   have HRW := Lib.hid hrow
   clear hT hrow
   have e3 := H3.out
   rw [e3]
   clear e3
   go_wp2_with fail
   refine HT.out.mono ?_
   rintro e w4 ⟨rfl, rfl⟩
   go_wp2_with fail
   go_ret
   have hkk := HK.out
   rw [hkk]
   exact ⟨_, _, rfl, HRW.out, hbw⟩
set_option maxRecDepth 20000 in
set_option maxHeartbeats 1600000 in
theorem rcompare_any (A A' : Option Addr) (c c' : Nat) (L M : List Nat) (w : World) (hl : L.length ≤ 1000000) (hm : M.length ≤ 1000000)
  (hR : Row .i64 w w.heap.size A c L) (hR' : Row .i64 w w.heap.size A' c' M) :
  Calls Tryz.prog 116 #[.slice A L.length c, .slice A' M.length c'] w fun e w' => e = .returned (.int .i64 (cmpL L M)) ∧ ∃ n, w' = w.drewN n := by
 generalize hn : L.length = n at *
 generalize hn' : M.length = n' at *
 have HN := Lib.hid hn
 have HN' := Lib.hid hn'
 clear hn hn'
 by_cases hne : n = n'
 ·subst hne
  have hdec : ((n : Int) != (n : Int)) = false := by simp
  go_enter Tryz.func116, Tryz.ntmps116
  go_wp2
  go_loopw [5] (fun v wr => ∃ k : Nat, k ≤ n ∧ v = .int .i64 ((k : Int) - 1) ∧ Hid (∃ d, wr = w.drewN d) ∧ Hid (cmpDown L M k = cmpDown L M n)) (fun v _ => (intOf v + 1).toNat)
  case atStart => exact ⟨n, Nat.le_refl _, rfl, ⟨0, rfl⟩, rfl⟩
  case round =>
   obtain ⟨k, hk, rfl, hw, ht⟩ := hrel
   obtain ⟨d, rfl⟩ := hw.out
   rcases Nat.eq_zero_or_pos k with rfl | hpos
   ·have hd : decide ((0 : Int) ≤ ((0 : Nat) : Int) - 1) = false := by simp
    go_wp2
    go_ret
    exact ⟨by rw [cmpL, HN.out, HN'.out, if_pos rfl, ← ht.out]; rfl, d, rfl⟩
   ·obtain ⟨m, rfl⟩ : ∃ m, k = m + 1 := ⟨k - 1, by omega⟩
    have h1 : ((0 : Int) ≤ ((m + 1 : Nat) : Int) - 1) := by omega
    obtain ⟨b, o, rfl, _, hcell⟩ := hR.spot (by rw [HN.out]; omega)
    obtain ⟨b', o', rfl, _, hcell'⟩ := hR'.spot (by rw [HN'.out]; omega)
    have hc1 := hcell m (by rw [HN.out]; omega)
    have hc2 := hcell' m (by rw [HN'.out]; omega)
    have e1 : ((m + 1 : Nat) : Int) - 1 = (m : Int) := by omega
    rw [e1]
    clear e1 h1 hcell hcell'
    rcases Nat.lt_trichotomy (nth L m) (nth M m) with hz | hz | hz
    ·have HZ := Lib.hid hz
     go_wp2
     go_quiet (fail)
     go_wp2
     go_ret
     have hzz := HZ.out
     exact ⟨ret_int (by rw [cmpL, HN.out, HN'.out, if_pos rfl, ← ht.out, cmpDown, if_neg (by omega)]; unfold cmpZ; rw [if_pos hzz]), _, World.drewN_drewN _ _ _⟩
    ·have hz1 : ¬ nth L m < nth M m := by omega
     have hz2 : ¬ nth M m < nth L m := by omega
     have HZ := Lib.hid hz
     clear hz
     go_wp2
     go_quiet (fail)
     go_wp2
     go_quiet (fail)
     go_wp2
     go_roundw
     case rel => exact ⟨m, by omega, rfl, ⟨_, rfl⟩, by have := ht.out; rw [cmpDown, if_pos HZ.out] at this; exact this⟩
     case measure => simp [intOf]
    ·have hz1 : ¬ nth L m < nth M m := by omega
     have HZ := Lib.hid hz
     go_wp2
     go_quiet (fail)
     go_wp2
     go_quiet (fail)
     go_wp2
     go_ret
     have hzz := HZ.out
     exact ⟨ret_int (by rw [cmpL, HN.out, HN'.out, if_pos rfl, ← ht.out, cmpDown, if_neg (by omega)]; unfold cmpZ; rw [if_neg (by omega), if_neg (by omega)]), _, drew3 _ _ _ _⟩
 ·rcases Nat.lt_or_gt_of_ne hne with hlt | hlt
  ·have hdec : ((n : Int) != (n' : Int)) = true := by simp; omega
   go_enter Tryz.func116, Tryz.ntmps116
   go_wp2
   go_ret
   exact ⟨ret_int (by rw [cmpL, HN.out, HN'.out, if_neg hne]; unfold cmpZ; rw [if_pos hlt]), 0, rfl⟩
  ·have hdec : ((n : Int) != (n' : Int)) = true := by simp; omega
   have hlt2 : ¬ n < n' := by omega
   go_enter Tryz.func116, Tryz.ntmps116
   go_wp2
   go_ret
   exact ⟨ret_int (by rw [cmpL, HN.out, HN'.out, if_neg hne]; unfold cmpZ; rw [if_neg hlt2, if_neg hne]), 0, rfl⟩
theorem canon_lt4 {L M : List Nat} (hL : Lim4 L) (h0 : 0 < M.length → nth M (M.length - 1) ≠ 0) (h : L.length < M.length) : val4 L < val4 M := by
 have h1 := valB_lt hL
 have h2 : (10000 : Nat) ^ L.length ≤ 10000 ^ (M.length - 1) := Nat.pow_le_pow_right (by omega) (by omega)
 have h3 := valB_take_succ 10000 M (M.length - 1) (by omega)
 rw [show M.length - 1 + 1 = M.length by omega, List.take_of_length_le (Nat.le_refl _)] at h3
 have h4 := h0 (by omega)
 have h5 : 10000 ^ (M.length - 1) * 1 ≤ 10000 ^ (M.length - 1) * nth M (M.length - 1) := Nat.mul_le_mul_left _ (by omega)
 unfold val4
 omega
theorem cmpDown_val4 {L M : List Nat} (hL : Lim4 L) (hM : Lim4 M) (n : Nat) (h1 : n ≤ L.length) (h2 : n ≤ M.length) : cmpDown L M n = cmpZ (val4 (L.take n)) (val4 (M.take n)) := by
 induction n with
 | zero => simp [cmpDown, cmpZ, valB]
 | succ n ih =>
  have e1 := valB_take_succ 10000 L n (by omega)
  have e2 := valB_take_succ 10000 M n (by omega)
  have b1 := valB_lt (hL.take n)
  have b2 := valB_lt (hM.take n)
  rw [List.length_take, Nat.min_eq_left (by omega)] at b1 b2
  unfold cmpDown val4
  rw [e1, e2]
  split
  ·rename_i h
   rw [ih (by omega) (by omega), h]
   unfold cmpZ val4
   simp
  ·rename_i h
   generalize valB 10000 (L.take n) = x at *
   generalize valB 10000 (M.take n) = y at *
   generalize (10000 : Nat) ^ n = p at *
   unfold cmpZ
   rcases Nat.lt_or_gt_of_ne h with h | h
   ·rw [if_pos h]
    have : p * (nth L n + 1) ≤ p * nth M n := Nat.mul_le_mul_left _ h
    rw [Nat.mul_add] at this
    rw [if_pos (by omega)]
   ·rw [if_neg (by omega), if_neg (by omega)]
    have : p * (nth M n + 1) ≤ p * nth L n := Nat.mul_le_mul_left _ h
    rw [Nat.mul_add] at this
    rw [if_neg (by omega), if_neg (by omega)]
theorem cmpL_val4 {w w' : World} {B B' : Nat} {n m : Bool} {A A' : Option Addr} {c c' : Nat} {L M : List Nat} (hL : RefR w B n A c L) (hM : RefR w' B' m A' c' M) : cmpL L M = cmpZ (val4 L) (val4 M) := by
 unfold cmpL
 split
 ·rename_i h
  rw [cmpDown_val4 hL.lim hM.lim _ (Nat.le_refl _) (by omega), List.take_of_length_le (Nat.le_refl _), List.take_of_length_le (by omega)]
 ·rename_i h
  rcases Nat.lt_or_gt_of_ne h with h | h
  ·have := canon_lt4 hL.lim hM.top h
   unfold cmpZ; rw [if_pos h, if_pos this]
  ·have := canon_lt4 hM.lim hL.top h
   unfold cmpZ; rw [if_neg (by omega), if_neg (by omega), if_neg (by omega), if_neg (by omega)]
set_option maxHeartbeats 3200000
set_option maxRecDepth 20000
theorem radd2 (A A' : Option Addr) (c c' : Nat) (L M : List Nat) (w : World) (hl : L.length ≤ 500000) (hml : M.length ≤ 500000)
  (hL : Lim4 L) (hM : Lim4 M) (hR : Row .i64 w w.heap.size A c L) (hR' : Row .i64 w w.heap.size A' c' M) :
  Calls Tryz.prog 115 #[.slice A L.length c, .slice A' M.length c'] w fun e w' => ∃ A2 c2 R, e = .returned (.slice A2 (List.length R) c2) ∧
   Row .i64 w' w'.heap.size A2 c2 R ∧ Lim4 R ∧ val4 R = val4 L + val4 M ∧ List.length R ≤ L.length + M.length + 1 ∧ Below w.heap.size w w' := by
 refine (radd_walk A A' c c' L M w (by omega) (by omega) hL hM hR hR').mono ?_
 rintro e w' ⟨v, k, rfl, h1, h2, h3, h4, ho, hb⟩
 obtain ⟨A2, c2, rfl, hrow⟩ := ho.row
 have hok := raSt_ok hL hM k
 have hv := raSt_val hL hM k
 rw [h4, valB_take_over _ _ _ h1, valB_take_over _ _ _ h2] at hv
 exact ⟨A2, c2, _, rfl, hrow, hok.1, by simpa using hv, by rw [hok.2.2]; exact h3, hb⟩
theorem rsub2 (A A' : Option Addr) (c c' : Nat) (L M : List Nat) (w : World) (hl : L.length ≤ 500000) (hml : M.length ≤ L.length)
  (hL : Lim4 L) (hM : Lim4 M) (hle : val4 M ≤ val4 L) (hR : Row .i64 w w.heap.size A c L) (hR' : Row .i64 w w.heap.size A' c' M) :
  Calls Tryz.prog 117 #[.slice A L.length c, .slice A' M.length c'] w fun e w' => ∃ A2 c2 R, e = .returned (.slice A2 (List.length R) c2) ∧
   Row .i64 w' w'.heap.size A2 c2 R ∧ Lim4 R ∧ val4 R + val4 M = val4 L ∧ List.length R ≤ L.length + M.length + 1 ∧ Below w.heap.size w w' := by
 refine (rsub_walk A A' c c' L M w (by omega) hml hL hM hR hR').mono ?_
 rintro e w' ⟨A2, c2, rfl, hrow, hb⟩
 have hok := rsSt_ok hL hM L.length
 have hv := rsSt_val hL hM L.length
 rw [valB_take_over _ _ _ (Nat.le_refl _), valB_take_over _ _ _ hml] at hv
 have hlt := valB_lt hok.1
 rw [hok.2.2] at hlt
 have hb0 : (rsSt L M L.length).2 = 0 := by
  rcases Nat.eq_zero_or_pos (rsSt L M L.length).2 with h | h
  ·exact h
  ·have h1 : (rsSt L M L.length).2 = 1 := by have := hok.2.1; omega
   rw [h1] at hv; simp only [val4] at hle; omega
 rw [hb0] at hv
 have htl := trimN_le (rsSt L M L.length).1 L.length
 have el : ((rsSt L M L.length).1.take (trimN (rsSt L M L.length).1 L.length)).length = trimN (rsSt L M L.length).1 L.length := by rw [List.length_take, hok.2.2]; omega
 refine ⟨A2, c2, (rsSt L M L.length).1.take (trimN (rsSt L M L.length).1 L.length), by rw [el], hrow.take _, hok.1.take _, ?_, by rw [el]; omega, hb⟩
 rw [val4, trimN_val _ _ _ (by rw [hok.2.2]; exact Nat.le_refl _), List.take_of_length_le (by rw [hok.2.2]; exact Nat.le_refl _)]
 simpa using hv
theorem rsigned_pack (neg : Bool) (A : Option Addr) (c : Nat) (R : List Nat) (w : World) {n : Nat} (hl : R.length ≤ n) (hn : n ≤ 4000000) (hlim : Lim4 R) (hR : Row .i64 w w.heap.size A c R) :
  Calls Tryz.prog 109 #[.bool neg, .slice A R.length c] w fun e w' => ∃ T, e = .returned (.agg #[.bool (neg && decide (0 < List.length T)), .slice A (List.length T) c]) ∧ Row .i64 w' w'.heap.size A c T ∧ (∀ d ∈ T, d < 10000) ∧ (0 < List.length T → nth T (List.length T - 1) ≠ 0) ∧
   val4 T = val4 R ∧ List.length T ≤ R.length ∧ Below w.heap.size w w' := by
 have htl := trimN_le R R.length
 have el : (R.take (trimN R R.length)).length = trimN R R.length := by rw [List.length_take]; omega
 refine (rsigned_any neg A c R w (by omega) hR).mono ?_
 rintro e w' ⟨rfl, hb⟩
 refine ⟨R.take (trimN R R.length), by rw [el], (((hR.below hb).more hb.size).take _), fun d hd => hlim d (List.mem_of_mem_take hd), ?_, ?_, by rw [el]; exact htl, hb⟩
 ·rw [el]; intro h; rw [nth_take (by omega)]; exact trimN_top _ _ h
 ·rw [val4, trimN_val _ _ _ (Nat.le_refl _), List.take_of_length_le (Nat.le_refl _)]
set_option maxHeartbeats 3200000
set_option maxRecDepth 20000
theorem zR_neg (n : Bool) {L : List Nat} : zR ((!n) && decide (0 < L.length)) L = - zR n L := by
 unfold zR
 rcases Nat.eq_zero_or_pos L.length with h1 | h1
 ·have h2 := val4_nil h1
  have e : (decide (0 < L.length)) = false := by rw [decide_eq_false_iff_not]; omega
  rw [e, Bool.and_false, h2]
  cases n <;> simp
 ·have e : (decide (0 < L.length)) = true := by rw [decide_eq_true_iff]; omega
  rw [e, Bool.and_true]
  cases n <;> simp
theorem rneg_any (n : Bool) (A : Option Addr) (c : Nat) (L : List Nat) (w : World) (hl : L.length ≤ 500000) (hL : RefR w w.heap.size n A c L) :
  Calls Tryz.prog 72 #[.agg #[.bool n, .slice A L.length c]] w fun e w' => ∃ k A c, e = .returned (.agg #[.bool k, .slice A L.length c]) ∧
   RefR w' w'.heap.size k A c L ∧ zR k L = - zR n L ∧ Below w.heap.size w w' := by
 have hM2 := fun W h1 => rsigned_trim (!n) A c L W hl hL.top h1
 have HM2 := Lib.hid hM2
 clear hM2
 have HZ := Lib.hid (zR_neg n (L := L))
 generalize hl' : L.length = l at *
 have HLL := Lib.hid hl'
 clear hl'
 go_enter Tryz.func72, Tryz.ntmps72
 go_wp2_with fail
 refine (HM2.out _ (hL.row.up (below_a2 _ _ _))).mono ?_
 rintro e w1 ⟨rfl, hb1⟩
 have X := two hb1
 have hq3 := X.2.2.1
 have hq4 := X.2.2.2.1
 have hq5 := X.2.2.2.2.1
 have hq6 := X.2.2.2.2.2.1
 have HB1 := Lib.hid X.2.2.2.2.2.2.2
 have HR1 := Lib.hid (hL.up (upa2 HB1.out))
 clear X hb1
 go_wp2_with fail
 refine bodyPost_ret (v := .agg #[.bool ((!n) && decide (0 < l)), .slice A l c]) (by simp [results, Tryz.results72, go_sem, hq3, hq4]) rfl
  ⟨_, _, _, rfl, ?_, by rw [← HZ.out], ((upa2 HB1.out).setCell (by simp) _).setCell (by simp) _⟩
 rw [setCell_size, setCell_size]
 refine ⟨HR1.out.row.box2 HB1.out (fun _ => by simp) (fun _ => by simp) _ _, HR1.out.lim, HR1.out.top, fun hk hR => ?_⟩
 have h9 : l = 0 := by rw [← HLL.out, hR]; rfl
 rw [h9] at hk
 simp at hk
def PInt (z : Int) (n : Nat) (v : Value) (w : World) : Prop := ∃ k A c L, v = .agg #[.bool k, .slice A (List.length L) c] ∧ IntR w w.heap.size k A c L ∧ zI k L = z ∧ L.length ≤ n
def PRef (z : Int) (n : Nat) (v : Value) (w : World) : Prop := ∃ k A c L, v = .agg #[.bool k, .slice A (List.length L) c] ∧ RefR w w.heap.size k A c L ∧ zR k L = z ∧ L.length ≤ n
theorem PInt.up {z : Int} {n : Nat} {v : Value} {w w' : World} (h : PInt z n v w) (hb : Below w.heap.size w w') : PInt z n v w' := by
 obtain ⟨k, A, c, L, h1, h2, h3⟩ := h
 exact ⟨k, A, c, L, h1, h2.up hb, h3⟩
theorem PInt.more {z : Int} {n m : Nat} {v : Value} {w : World} (h : PInt z n v w) (hm : n ≤ m) : PInt z m v w := by
 obtain ⟨k, A, c, L, h1, h2, h3, h4⟩ := h
 exact ⟨k, A, c, L, h1, h2, h3, by omega⟩
theorem add_fact {x y : Int} {n m : Nat} {a b : Value} {w : World} (h1 : PInt x n a w) (h2 : PInt y m b w) (hn : n ≤ 500000) (hm : m ≤ 500000) :
  Calls Tryz.prog 66 #[a, b] w fun e w' => ∃ v, e = .returned v ∧ PInt (x + y) (n + m + 1) v w' ∧ Below w.heap.size w w' := by
 obtain ⟨k, A, c, L, rfl, i1, rfl, l1⟩ := h1
 obtain ⟨k', A', c', M, rfl, i2, rfl, l2⟩ := h2
 refine (add_any k k' A A' c c' L M w (by omega) (by omega) i1 i2).mono ?_
 rintro e w' ⟨q, B, d, R, rfl, hi, hz, hl, hb⟩
 exact ⟨_, rfl, ⟨q, B, d, R, rfl, hi, hz, by omega⟩, hb⟩
theorem mul_fact {x y : Int} {n m : Nat} {a b : Value} {w : World} (h1 : PInt x n a w) (h2 : PInt y m b w) (hn : n ≤ 500000) (hm : m ≤ 500000) :
  Calls Tryz.prog 39 #[a, b] w fun e w' => ∃ v, e = .returned v ∧ PInt (x * y) (n + m) v w' ∧ Below w.heap.size w w' := by
 obtain ⟨k, A, c, L, rfl, i1, rfl, l1⟩ := h1
 obtain ⟨k', A', c', M, rfl, i2, rfl, l2⟩ := h2
 refine (mul_any k k' A A' c c' L M w (by omega) (by omega) i1 i2).mono ?_
 rintro e w' ⟨q, B, d, R, rfl, hi, hz, hl, hb⟩
 exact ⟨_, rfl, ⟨q, B, d, R, rfl, hi, hz, by omega⟩, hb⟩
theorem neg_fact {x : Int} {n : Nat} {a : Value} {w : World} (h1 : PInt x n a w) (hn : n ≤ 500000) :
  Calls Tryz.prog 46 #[a] w fun e w' => ∃ v, e = .returned v ∧ PInt (-x) n v w' ∧ Below w.heap.size w w' := by
 obtain ⟨k, A, c, L, rfl, i1, rfl, l1⟩ := h1
 refine (neg_any k A c L w (by omega) i1).mono ?_
 rintro e w' ⟨q, B, d, rfl, hi, hz, hb⟩
 exact ⟨_, rfl, ⟨q, B, d, L, rfl, hi, hz, by omega⟩, hb⟩
theorem cmp_fact {x y : Int} {n m : Nat} {a b : Value} {w : World} (h1 : PInt x n a w) (h2 : PInt y m b w) (hn : n ≤ 1000000) (hm : m ≤ 1000000) :
  Calls Tryz.prog 43 #[a, b] w fun e w' => e = .returned (.int .i64 (cmpI x y)) ∧ Below w.heap.size w w' := by
 obtain ⟨k, A, c, L, rfl, i1, rfl, l1⟩ := h1
 obtain ⟨k', A', c', M, rfl, i2, rfl, l2⟩ := h2
 exact cmp_any k k' A A' c c' L M w (by omega) (by omega) i1 i2
theorem sgnI_cmp {w : World} {B : Nat} {n : Bool} {A : Option Addr} {c : Nat} {L : List Nat} (h : IntR w B n A c L) : sgnI n L = cmpI (zI n L) 0 := by
 unfold sgnI zI cmpI
 cases n
 ·rcases Nat.eq_zero_or_pos L.length with h0 | h0
  ·have : L = [] := List.eq_nil_of_length_eq_zero h0
   subst this; simp [valB]
  ·have := canon_pos h.canon h0
   have h1 : ¬ L.length = 0 := by omega
   have h2 : ¬ ((val9 L : Nat) : Int) < 0 := by omega
   have h3 : ¬ ((val9 L : Nat) : Int) = 0 := by omega
   simp only [Bool.false_eq_true, if_false]
   rw [if_neg h1, if_neg h2, if_neg h3]
 ·have h1 := List.length_pos_iff.2 (h.sgn rfl)
  have := canon_pos h.canon h1
  have h2 : -((val9 L : Nat) : Int) < 0 := by omega
  simp only [if_true]
  rw [if_pos h2]
theorem sign_fact {x : Int} {n : Nat} {a : Value} {w : World} (h1 : PInt x n a w) :
  Calls Tryz.prog 35 #[a] w fun e w' => e = .returned (.int .i64 (cmpI x 0)) ∧ Below w.heap.size w w' := by
 obtain ⟨k, A, c, L, rfl, i1, rfl, l1⟩ := h1
 rw [← sgnI_cmp i1]
 exact sign_any k A c L w
theorem sign_is {x c : Int} {n : Nat} {a : Value} {w : World} (h1 : PInt x n a w) (hc : cmpI x 0 = c) :
  Calls Tryz.prog 35 #[a] w fun e w' => e = .returned (.int .i64 c) ∧ Below w.heap.size w w' := hc ▸ sign_fact h1
theorem cmp_is {x y c : Int} {n m : Nat} {a b : Value} {w : World} (h1 : PInt x n a w) (h2 : PInt y m b w) (hn : n ≤ 1000000) (hm : m ≤ 1000000) (hc : cmpI x y = c) :
  Calls Tryz.prog 43 #[a, b] w fun e w' => e = .returned (.int .i64 c) ∧ Below w.heap.size w w' := hc ▸ cmp_fact h1 h2 hn hm
set_option maxHeartbeats 1600000
set_option maxRecDepth 20000
theorem rof_len {k v m n : Nat} (h : k * 10000 ^ n + v = m) (hm : m ≤ 9223372036854775808) (hk : k ≠ 0) : n ≤ 4 := by
 rcases Nat.lt_or_ge 4 n with h1 | h1
 ·have h2 : (10000 : Nat) ^ 5 ≤ 10000 ^ n := Nat.pow_le_pow_right (by omega) (by omega)
  have h3 : 1 * 10000 ^ n ≤ k * 10000 ^ n := Nat.mul_le_mul_right _ (by omega)
  omega
 ·exact h1
theorem rof_step {k v m n : Nat} (h : k * 10000 ^ n + v = m) : k / 10000 * 10000 ^ (n + 1) + (v + 10000 ^ n * (k % 10000)) = m := by
 have h1 := Nat.div_add_mod k 10000
 rw [Nat.pow_succ]
 generalize k / 10000 = a at *
 generalize k % 10000 = b at *
 subst h1
 grind
theorem tmod_neg (k : Nat) : Int.tmod (-(k : Int)) 10000 = -((k % 10000 : Nat) : Int) := by rw [Int.neg_tmod]; rfl
theorem tdiv_neg (k : Nat) : Int.tdiv (-(k : Int)) 10000 = -((k / 10000 : Nat) : Int) := by rw [Int.neg_tdiv]; rfl
theorem rof_pos (m : Nat) (w : World) (h2 : m ≤ 9223372036854775807) :
  Calls Tryz.prog 86 #[.int .i64 m] w fun e w' => ∃ k A c R, e = .returned (.agg #[.bool k, .slice A (List.length R) c]) ∧ RefR w' w'.heap.size k A c R ∧ zR k R = (m : Int) ∧ List.length R ≤ 5 ∧ Below w.heap.size w w' := by
 obtain ⟨i0, hi, hz0, hz1, hz2⟩ := info_parts info3
 go_enter Tryz.func86, Tryz.ntmps86
 go_wp2
 go_loopw [3, 4] (fun ov kv wr => ∃ (k : Nat) (Q : List Nat), k ≤ m ∧ kv = .int .i64 k ∧ Own .i64 3 wr (w.heap.size + 1) ov Q ∧ Lim4 Q ∧ Hid (k * 10000 ^ Q.length + val4 Q = m) ∧ Hid (Q.length ≤ 5) ∧ Below (w.heap.size + 1) (w.alloc (.cells #[.bool false, .slice none 0 0] 33)) wr) (fun _ kv _ => (intOf kv).natAbs)
 case atStart => exact ⟨m, [], Nat.le_refl _, rfl, Own.nil _ _ _ _, fun _ h => absurd h (List.not_mem_nil), by show _ = _; simp [val4, valB], Nat.zero_le _, Below.refl _ _⟩
 case round =>
  obtain ⟨k, Q, hk, rfl, ho, hlim, hv, hql5, hb⟩ := hrel
  have hsz : w.heap.size + 1 ≤ wr.heap.size := by have := hb.size; simpa using this
  have HO := Lib.hid ho
  clear ho
  rcases Nat.eq_zero_or_pos k with rfl | hpos
  ·obtain ⟨A, c, rfl, hrow⟩ := HO.out.row
   have HV0 := hv.out
   rw [Nat.zero_mul, Nat.zero_add] at HV0
   have HVV := Lib.hid HV0
   clear HV0 hv
   have HB1 := Lib.hid hb
   clear hb
   have hd0 : decide ((m : Int) < 0) = false := by simp
   go_wp2_with fail
   try rw [hd0]
   refine (rsigned_pack _ _ _ Q _ hql5.out (by omega) hlim hrow).mono ?_
   rintro e w2 ⟨T, rfl, hr2, hlim2, htop2, hv2, hl2, hb2⟩
   have hby := below_then HB1.out hb2 hsz
   have hy0 := (boxed2 hby).1
   have hy1 := (boxed2 hby).2
   have gy0 := boxedF hby 0
   have gy1 := boxedF hby 1
   have HBY := Lib.hid hby
   have HV2 := Lib.hid hv2
   have HR2 := Lib.hid hr2
   clear hb2 hby hv2 hr2
   go_wp2_with fail
   have hbw : Below w.heap.size w w2 := (below_alloc_new _).trans (Below.less HBY.out (Nat.le_succ _))
   refine bodyPost_ret (v := .agg #[.bool (false && decide (0 < List.length T)), .slice A (List.length T) c]) (by simp [results, Tryz.results86, go_sem, hy0, hy1]) rfl
    ⟨_, _, _, T, rfl, ?_, ?_, by have := hql5.out; omega, (hbw.setCell (by simp) _).setCell (by simp) _⟩
   ·rw [setCell_size, setCell_size]
    exact ⟨HR2.out.box HBY.out (fun _ => by simp) (fun _ => by simp) _ _, hlim2, htop2, fun hk0 hR => by rw [hR] at hk0; simp at hk0⟩
   ·have e1 : val4 T = m := by rw [HV2.out, HVV.out]
    have e2 : List.length T = 0 → val4 T = 0 := val4_nil
    unfold zR
    rw [e1]
    simp
  ·have hq := rof_len hv.out (by omega) (by omega)
   have hql : Q.length ≤ 100000000 := by omega
   have HQL := Lib.hid hql
   clear hql
   have hk0 : ¬ ((k : Int) = 0) := by omega
   go_wp2_with (at_builtin; refine wpList_append_num wr rfl (.tmp 17) (.tmp 19) 31 rfl .i64 (w.heap.size + 1) 3 i0 8 Tryz.underlying31 hi hz0 hz1 hz2 (by omega) u3 _ (by rfl) HO.out _ (k % 10000) ?_ 1 rfl HQL.out ?_ ?_; (simp); (exact hsz); intro v2 w2 ho2 hb2)
   go_roundw
   case rel =>
    exact ⟨k / 10000, Q ++ [k % 10000], by omega, rfl, ho2.out, fun d hd => by
     rcases List.mem_append.1 hd with h | h
     ·exact hlim d h
     ·rw [List.mem_singleton] at h; subst h; exact Nat.mod_lt _ (by omega), by
     show _ = _
     have h1 := rof_step hv.out
     rw [List.length_append, List.length_singleton, val4, valB_append]
     simp only [valB, Nat.mul_zero, Nat.add_zero]
     exact h1, by show _ ≤ _; simp; omega, hb.trans (Below.less hb2 (by simp))⟩
   case measure => simp [intOf]; omega
theorem rof_neg (m : Nat) (w : World) (h2 : m ≤ 9223372036854775808) (h3 : 0 < m) :
  Calls Tryz.prog 86 #[.int .i64 (-(m : Int))] w fun e w' => ∃ k A c R, e = .returned (.agg #[.bool k, .slice A (List.length R) c]) ∧ RefR w' w'.heap.size k A c R ∧ zR k R = -(m : Int) ∧ List.length R ≤ 5 ∧ Below w.heap.size w w' := by
 obtain ⟨i0, hi, hz0, hz1, hz2⟩ := info_parts info3
 go_enter Tryz.func86, Tryz.ntmps86
 go_wp2
 go_loopw [3, 4] (fun ov kv wr => ∃ (k : Nat) (Q : List Nat), k ≤ m ∧ kv = .int .i64 (-(k : Int)) ∧ Own .i64 3 wr (w.heap.size + 1) ov Q ∧ Lim4 Q ∧ Hid (k * 10000 ^ Q.length + val4 Q = m) ∧ Hid (Q.length ≤ 5) ∧ Below (w.heap.size + 1) (w.alloc (.cells #[.bool false, .slice none 0 0] 33)) wr) (fun _ kv _ => (intOf kv).natAbs)
 case atStart => exact ⟨m, [], Nat.le_refl _, rfl, Own.nil _ _ _ _, fun _ h => absurd h (List.not_mem_nil), by show _ = _; simp [val4, valB], Nat.zero_le _, Below.refl _ _⟩
 case round =>
  obtain ⟨k, Q, hk, rfl, ho, hlim, hv, hql5, hb⟩ := hrel
  have hsz : w.heap.size + 1 ≤ wr.heap.size := by have := hb.size; simpa using this
  have HO := Lib.hid ho
  clear ho
  rcases Nat.eq_zero_or_pos k with rfl | hpos
  ·obtain ⟨A, c, rfl, hrow⟩ := HO.out.row
   have HV0 := hv.out
   rw [Nat.zero_mul, Nat.zero_add] at HV0
   have HVV := Lib.hid HV0
   clear HV0 hv
   have HB1 := Lib.hid hb
   clear hb
   have hd0 : decide (-(m : Int) < 0) = true := by simp; omega
   go_wp2_with fail
   try rw [hd0]
   refine (rsigned_pack _ _ _ Q _ hql5.out (by omega) hlim hrow).mono ?_
   rintro e w2 ⟨T, rfl, hr2, hlim2, htop2, hv2, hl2, hb2⟩
   have hby := below_then HB1.out hb2 hsz
   have hy0 := (boxed2 hby).1
   have hy1 := (boxed2 hby).2
   have gy0 := boxedF hby 0
   have gy1 := boxedF hby 1
   have HBY := Lib.hid hby
   have HV2 := Lib.hid hv2
   have HR2 := Lib.hid hr2
   clear hb2 hby hv2 hr2
   go_wp2_with fail
   have hbw : Below w.heap.size w w2 := (below_alloc_new _).trans (Below.less HBY.out (Nat.le_succ _))
   refine bodyPost_ret (v := .agg #[.bool (true && decide (0 < List.length T)), .slice A (List.length T) c]) (by simp [results, Tryz.results86, go_sem, hy0, hy1]) rfl
    ⟨_, _, _, T, rfl, ?_, ?_, by have := hql5.out; omega, (hbw.setCell (by simp) _).setCell (by simp) _⟩
   ·rw [setCell_size, setCell_size]
    exact ⟨HR2.out.box HBY.out (fun _ => by simp) (fun _ => by simp) _ _, hlim2, htop2, fun hk0 hR => by rw [hR] at hk0; simp at hk0⟩
   ·have e1 : val4 T = m := by rw [HV2.out, HVV.out]
    have e2 : List.length T = 0 → val4 T = 0 := val4_nil
    unfold zR
    rw [e1]
    have h9 : 0 < List.length T := by
     rcases Nat.eq_zero_or_pos (List.length T) with h | h
     ·have := e2 h; omega
     ·exact h
    simp [h9]
  ·have hq := rof_len hv.out (by omega) (by omega)
   have hql : Q.length ≤ 100000000 := by omega
   have HQL := Lib.hid hql
   clear hql
   have hk0 : ¬ (-(k : Int) = 0) := by omega
   have ht := tmod_neg k
   have hdv := tdiv_neg k
   rcases Nat.eq_zero_or_pos (k % 10000) with hz | hz
   ·go_wp2_with (at_builtin; refine wpList_append_num wr rfl (.tmp 17) (.tmp 19) 31 rfl .i64 (w.heap.size + 1) 3 i0 8 Tryz.underlying31 hi hz0 hz1 hz2 (by omega) u3 _ (by rfl) HO.out _ (0) ?_ 1 rfl HQL.out ?_ ?_; (simp); (exact hsz); intro v2 w2 ho2 hb2)
    go_roundw
    case rel =>
     have hkk := hz
     exact ⟨k / 10000, Q ++ [0], by omega, by first | rfl | (rw [hdv]; rfl), ho2.out, fun d hd => by
      rcases List.mem_append.1 hd with h | h
      ·exact hlim d h
      ·rw [List.mem_singleton] at h; subst h; omega, by
      show _ = _
      have h1 := rof_step hv.out
      rw [List.length_append, List.length_singleton, val4, valB_append]
      simp only [valB, Nat.mul_zero, Nat.add_zero]
      rw [hz, Nat.mul_zero, Nat.add_zero] at h1
      simpa using h1, by show _ ≤ _; simp; omega, hb.trans (Below.less hb2 (by simp))⟩
    case measure => simp [intOf]; omega
   ·go_wp2_with (at_builtin; refine wpList_append_num wr rfl (.tmp 17) (.tmp 19) 31 rfl .i64 (w.heap.size + 1) 3 i0 8 Tryz.underlying31 hi hz0 hz1 hz2 (by omega) u3 _ (by rfl) HO.out _ (k % 10000) ?_ 1 rfl HQL.out ?_ ?_; (simp); (exact hsz); intro v2 w2 ho2 hb2)
    go_roundw
    case rel =>
     have hkk := hz
     exact ⟨k / 10000, Q ++ [k % 10000], by omega, by first | rfl | (rw [hdv]; rfl), ho2.out, fun d hd => by
      rcases List.mem_append.1 hd with h | h
      ·exact hlim d h
      ·rw [List.mem_singleton] at h; subst h; omega, by
      show _ = _
      have h1 := rof_step hv.out
      rw [List.length_append, List.length_singleton, val4, valB_append]
      simp only [valB, Nat.mul_zero, Nat.add_zero]
      exact h1, by show _ ≤ _; simp; omega, hb.trans (Below.less hb2 (by simp))⟩
    case measure => simp [intOf]; omega
theorem rof_any (n : Int) (w : World) (h1 : -9223372036854775808 ≤ n) (h2 : n ≤ 9223372036854775807) :
  Calls Tryz.prog 86 #[.int .i64 n] w fun e w' => ∃ k A c R, e = .returned (.agg #[.bool k, .slice A (List.length R) c]) ∧ RefR w' w'.heap.size k A c R ∧ zR k R = n ∧ List.length R ≤ 5 ∧ Below w.heap.size w w' := by
 rcases Int.lt_or_le n 0 with h | h
 ·obtain ⟨m, rfl⟩ : ∃ m : Nat, n = -(m : Int) := ⟨n.natAbs, by omega⟩
  exact rof_neg m w (by omega) (by omega)
 ·obtain ⟨m, rfl⟩ : ∃ m : Nat, n = (m : Int) := ⟨n.natAbs, by omega⟩
  exact rof_pos m w (by omega)
def limbsN (n : Nat) : List Nat := if n = 0 then [] else n % 1000000000 :: limbsN (n / 1000000000)
termination_by n
decreasing_by omega
theorem limbsN_zero : limbsN 0 = [] := by rw [limbsN]; rfl
theorem limbsN_pos {n : Nat} (h : 0 < n) : limbsN n = n % 1000000000 :: limbsN (n / 1000000000) := by rw [limbsN, if_neg (by omega)]
theorem limbsN_val (n : Nat) : val9 (limbsN n) = n := by
 induction n using Nat.strongRecOn with
 | _ n ih =>
  rcases Nat.eq_zero_or_pos n with rfl | h
  ·rw [limbsN_zero]; rfl
  ·rw [limbsN_pos h]
   have := ih (n / 1000000000) (by omega)
   show n % 1000000000 + 1000000000 * val9 _ = n
   rw [this]; omega
theorem limbsN_canon (n : Nat) : Canon (limbsN n) := by
 induction n using Nat.strongRecOn with
 | _ n ih =>
  rcases Nat.eq_zero_or_pos n with rfl | h
  ·rw [limbsN_zero]; exact ⟨fun _ h => absurd h (List.not_mem_nil), fun h => absurd h (Nat.lt_irrefl 0)⟩
  ·have i := ih (n / 1000000000) (by omega)
   have e := limbsN_pos h
   rw [e]
   refine ⟨fun d hd => ?_, fun _ => ?_⟩
   ·rcases List.mem_cons.1 hd with h1 | h1
    ·omega
    ·exact i.lim d h1
   ·rcases Nat.eq_zero_or_pos (n / 1000000000) with h0 | h0
    ·rw [h0, limbsN_zero]; simp [nth]; omega
    ·have hl : 0 < (limbsN (n / 1000000000)).length := by rw [limbsN_pos h0]; simp
     have ht := i.top hl
     have : nth (n % 1000000000 :: limbsN (n / 1000000000)) ((n % 1000000000 :: limbsN (n / 1000000000)).length - 1) = nth (limbsN (n / 1000000000)) ((limbsN (n / 1000000000)).length - 1) := by
      generalize limbsN (n / 1000000000) = l at *
      rcases l with _ | ⟨a, r⟩
      ·simp at hl
      ·simp [nth]
     rw [this]; exact ht
theorem limbsN_len (n : Nat) (h : n < 1000000000000000000000000000) : (limbsN n).length ≤ 3 := by
 rcases Nat.eq_zero_or_pos n with rfl | h1
 ·rw [limbsN_zero]; simp
 ·rw [limbsN_pos h1]
  rcases Nat.eq_zero_or_pos (n / 1000000000) with h2 | h2
  ·rw [h2, limbsN_zero]; simp
  ·rw [limbsN_pos h2]
   rcases Nat.eq_zero_or_pos (n / 1000000000 / 1000000000) with h3 | h3
   ·rw [h3, limbsN_zero]; simp
   ·rw [limbsN_pos h3]
    have : n / 1000000000 / 1000000000 / 1000000000 = 0 := by omega
    rw [this, limbsN_zero]; simp
set_option maxHeartbeats 1600000 in
theorem limbsOf_any (n : Nat) (w : World) (hn : n ≤ 10000000000000000000) :
  Calls Tryz.prog 84 #[.int .u64 n] w fun e w' => ∃ A c, e = .returned (.slice A (limbsN n).length c) ∧ Row .u32 w' w'.heap.size A c (limbsN n) ∧ Below w.heap.size w w' := by
 obtain ⟨i0, hi, hz0, hz1, hz2⟩ := info_parts info68
 have hlen := limbsN_len n (by omega)
 have HLEN := Lib.hid hlen
 clear hlen
 go_enter Tryz.func84, Tryz.ntmps84
 go_wp2
 go_loopw [0, 3] (fun wv lv wr => ∃ (m : Nat) (pre : List Nat), m ≤ n ∧ wv = .int .u64 m ∧ Own .u32 104 wr w.heap.size lv pre ∧ Hid (pre ++ limbsN m = limbsN n) ∧ Below w.heap.size w wr) (fun wv _ _ => (intOf wv).toNat)
 case atStart => exact ⟨n, [], Nat.le_refl _, rfl, Own.nil _ _ _ _, by show _ = _; simp, Below.refl _ _⟩
 case round =>
  obtain ⟨m, pre, hm, rfl, ho, hpre, hbw⟩ := hrel
  have hsz := hbw.size
  rcases Nat.eq_zero_or_pos m with rfl | hpos
  ·have hd : decide ((0 : Int) < ((0 : Nat) : Int)) = false := by simp
   have hp := hpre.out
   rw [limbsN_zero, List.append_nil] at hp
   obtain ⟨A, c, hv, hrow⟩ := ho.row
   subst hv
   have HR := Lib.hid hrow
   have HP := Lib.hid hp
   clear hp hrow ho hpre
   go_wp2
   go_ret
   have hpp := HP.out
   exact ⟨A, c, by rw [← hpp]; rfl, by rw [← hpp]; exact HR.out, hbw⟩
  ·have hpl : pre.length ≤ 100000000 := by
    have h1 := congrArg List.length hpre.out
    rw [List.length_append] at h1
    have := HLEN.out
    omega
   have HPL := Lib.hid hpl
   have HO := Lib.hid ho
   have hp0 : (0 : Int) < (m : Int) := by omega
   clear hpl ho
   go_wp2_with (at_builtin; refine wpList_append_num wr rfl (.tmp 8) (.tmp 12) 23 rfl .u32 w.heap.size 104 i0 4 Tryz.underlying23 hi hz0 hz1 hz2 (by omega) u3 _ (by rfl) HO.out _ (m % 1000000000) ?_ 1 rfl HPL.out ?_ ?_; (simp); (exact hsz); intro v2 w2 ho2 hb2)
   go_roundw
   case rel =>
    exact ⟨m / 1000000000, pre ++ [m % 1000000000], by omega, by simp, ho2.out, by show _ = _; rw [List.append_assoc]; rw [← hpre.out, limbsN_pos hpos]; rfl, hbw.trans hb2⟩
   case measure => simp [intOf]; omega
set_option maxHeartbeats 1600000
set_option maxRecDepth 20000
theorem wordOf_any (A : Option Addr) (c : Nat) (L : List Nat) (w : World) (hl : L.length ≤ 1000000) (hv : val9 L ≤ 10000000000000000000) (hR : Row .u32 w w.heap.size A c L) (hL : Lim L) :
  Calls Tryz.prog 125 #[.slice A L.length c] w fun e w' => e = .returned (.int .u64 (val9 L)) ∧ w = w' := by
 have hvd : ∀ k, val9 (L.drop k) ≤ 10000000000000000000 := fun k => by
  have h1 := valB_append 1000000000 (L.take k) (L.drop k)
  rw [List.take_append_drop] at h1
  have h2 : 1 * valB 1000000000 (L.drop k) ≤ 1000000000 ^ (L.take k).length * valB 1000000000 (L.drop k) := Nat.mul_le_mul_right _ (Nat.pow_pos (by omega))
  unfold val9 at *
  omega
 have HVD := Lib.hid hvd
 clear hvd hv
 generalize hn : L.length = n at *
 have HN := Lib.hid hn
 clear hn
 go_enter Tryz.func125, Tryz.ntmps125
 go_wp2
 go_loop [3, 4] (fun wv iv => ∃ (k v : Nat), k ≤ n ∧ iv = .int .i64 ((k : Int) - 1) ∧ wv = .int .u64 v ∧ Hid (v = val9 (L.drop k))) (fun _ iv => (intOf iv + 1).toNat)
 case atStart => exact ⟨n, 0, Nat.le_refl _, rfl, rfl, by show _ = _; rw [List.drop_of_length_le (by rw [HN.out]; exact Nat.le_refl _)]; rfl⟩
 case round =>
  obtain ⟨k, v, hk, rfl, rfl, ht⟩ := hrel
  rcases Nat.eq_zero_or_pos k with rfl | hpos
  ·have hd : decide ((0 : Int) ≤ ((0 : Nat) : Int) - 1) = false := by simp
   go_wp2
   go_ret
   have htt := ht.out
   rw [List.drop_zero] at htt
   exact ⟨by rw [htt]; rfl, rfl⟩
  ·obtain ⟨m, rfl⟩ : ∃ m, k = m + 1 := ⟨k - 1, by omega⟩
   have h1 : ((0 : Int) ≤ ((m + 1 : Nat) : Int) - 1) := by omega
   obtain ⟨b, o, rfl, _, hcell⟩ := hR.spot (by rw [HN.out]; omega)
   have hc := hcell m (by rw [HN.out]; omega)
   have hd := hL.nth m
   have hst := valB_drop 1000000000 L m (by rw [HN.out]; omega)
   have hbd := HVD.out m
   unfold val9 at hbd
   rw [hst] at hbd
   have htt := ht.out
   unfold val9 at htt
   rw [← htt] at hbd
   have e1 : ((m + 1 : Nat) : Int) - 1 = (m : Int) := by omega
   rw [e1]
   have HST := Lib.hid hst
   clear e1 h1 hcell hst htt
   go_wp2
   go_round
   case rel => exact ⟨m, v * 1000000000 + nth L m, by omega, rfl, by simp, by
    show _ = _
    have h9 := ht.out
    unfold val9 at h9 ⊢
    rw [HST.out, ← h9]; omega⟩
   case measure => simp [intOf]
theorem wrap_neg {n : Int} (h1 : -9223372036854775808 ≤ n) (h2 : n < 0) : IntKind.u64.wrap (-IntKind.u64.wrap n) = -n := by
 simp only [IntKind.wrap, IntKind.signed, IntKind.bits, Bool.false_and, Bool.false_eq_true, if_false]
 omega
theorem of_any (n : Int) (w : World) (h1 : -9223372036854775808 ≤ n) (h2 : n ≤ 9223372036854775807) :
  Calls Tryz.prog 41 #[.int .i64 n] w fun e w' => ∃ k A c, e = .returned (.agg #[.bool k, .slice A (limbsN n.natAbs).length c]) ∧ IntR w' w'.heap.size k A c (limbsN n.natAbs) ∧ zI k (limbsN n.natAbs) = n ∧ Below w.heap.size w w' := by
 have hLo : ∀ (x : Int), x = (n.natAbs : Int) → ∀ W, Calls Tryz.prog 84 #[.int .u64 x] W fun e w' => ∃ A c, e = .returned (.slice A (limbsN n.natAbs).length c) ∧ Row .u32 w' w'.heap.size A c (limbsN n.natAbs) ∧ Below W.heap.size W w' := by
  intro x hx W
  subst hx
  exact limbsOf_any n.natAbs W (by omega)
 have HLO := Lib.hid hLo
 clear hLo
 have hval := limbsN_val n.natAbs
 have hcan := limbsN_canon n.natAbs
 have hz0 : n.natAbs = 0 → (limbsN n.natAbs).length = 0 := fun h => by rw [h, limbsN_zero]; rfl
 have hzp : 0 < n.natAbs → 0 < (limbsN n.natAbs).length := fun h => by rw [limbsN_pos h]; simp
 by_cases hneg : n < 0
 ·have hn : (n.natAbs : Int) = -n := by omega
  go_enter Tryz.func41, Tryz.ntmps41
  go_wp2_with fail
  refine (HLO.out _ (by rw [hn]; exact wrap_neg h1 hneg) _).mono ?_
  rintro e w1 ⟨A, c, rfl, hr1, hb1⟩
  have X := boxed hb1
  have HB1 := Lib.hid X.2.2.2
  have hs1 := X.2.2.1
  clear X hb1
  have HN := Lib.hid hn
  have HZP := Lib.hid (hzp (by omega))
  have HV := Lib.hid hval
  have HCAN := Lib.hid hcan
  clear hn hz0 hzp hval hcan
  go_wp2_with fail
  refine (signed_any _ _ _ _ _).mono ?_
  rintro e w2 ⟨rfl, hb2⟩
  have HR2 := Lib.hid ((hr1.below hb2).more hb2.size)
  have hby := below_then HB1.out hb2 hs1
  have hy0 := (boxed2 hby).1
  have hy1 := (boxed2 hby).2
  have gy0 := boxedF hby 0
  have gy1 := boxedF hby 1
  have HBY := Lib.hid hby
  have hdt : (true && decide (0 < (limbsN n.natAbs).length)) = true := by simpa using HZP.out
  rw [hdt]
  clear hby hb2 hr1 hdt
  go_wp2_with fail
  have hbw : Below w.heap.size w w2 := (below_alloc_new _).trans (Below.less HBY.out (Nat.le_succ _))
  refine bodyPost_ret (v := .agg #[.bool true, .slice A (limbsN n.natAbs).length c]) (by simp [results, Tryz.results41, go_sem, hy0, hy1]) rfl
   ⟨_, _, _, rfl, ?_, ?_, (hbw.setCell (by simp) _).setCell (by simp) _⟩
  ·rw [setCell_size, setCell_size]
   exact ⟨HR2.out.box HBY.out (fun _ => by simp) (fun _ => by simp) _ _, HCAN.out, fun _ h => by have := HZP.out; rw [h] at this; simp at this⟩
  ·unfold zI
   rw [HV.out]
   have := HN.out
   simp only [if_true]
   omega
 ·have hn : (n.natAbs : Int) = n := by omega
  go_enter Tryz.func41, Tryz.ntmps41
  go_wp2_with fail
  refine (HLO.out _ hn.symm _).mono ?_
  rintro e w1 ⟨A, c, rfl, hr1, hb1⟩
  have X := boxed hb1
  have HB1 := Lib.hid X.2.2.2
  have hs1 := X.2.2.1
  clear X hb1
  have HN := Lib.hid hn
  have HV := Lib.hid hval
  have HCAN := Lib.hid hcan
  clear hn hz0 hzp hval hcan
  go_wp2_with fail
  refine (signed_any _ _ _ _ _).mono ?_
  rintro e w2 ⟨rfl, hb2⟩
  have HR2 := Lib.hid ((hr1.below hb2).more hb2.size)
  have hby := below_then HB1.out hb2 hs1
  have hy0 := (boxed2 hby).1
  have hy1 := (boxed2 hby).2
  have gy0 := boxedF hby 0
  have gy1 := boxedF hby 1
  have HBY := Lib.hid hby
  have hdt : (false && decide (0 < (limbsN n.natAbs).length)) = false := rfl
  rw [hdt]
  clear hby hb2 hr1 hdt
  go_wp2_with fail
  have hbw : Below w.heap.size w w2 := (below_alloc_new _).trans (Below.less HBY.out (Nat.le_succ _))
  refine bodyPost_ret (v := .agg #[.bool false, .slice A (limbsN n.natAbs).length c]) (by simp [results, Tryz.results41, go_sem, hy0, hy1]) rfl
   ⟨_, _, _, rfl, ?_, ?_, (hbw.setCell (by simp) _).setCell (by simp) _⟩
  ·rw [setCell_size, setCell_size]
   exact ⟨HR2.out.box HBY.out (fun _ => by simp) (fun _ => by simp) _ _, HCAN.out, fun h => absurd h Bool.false_ne_true⟩
  ·unfold zI
   rw [HV.out]
   simp only [Bool.false_eq_true, if_false]
   exact HN.out
set_option maxHeartbeats 6400000
set_option maxRecDepth 20000
def minI : Int := -9223372036854775808
def maxI : Int := 9223372036854775807
theorem of_min (w : World) : Calls Tryz.prog 41 #[.int .i64 (-9223372036854775808)] w fun e w' => ∃ k A c M, e = .returned (.agg #[.bool k, .slice A (List.length M) c]) ∧ IntR w' w'.heap.size k A c M ∧ zI k M = minI ∧ List.length M ≤ 3 ∧ Below w.heap.size w w' := by
 refine (of_any (-9223372036854775808) w (by omega) (by omega)).mono ?_
 rintro e w' ⟨k, A, c, h1, h2, h3, h4⟩
 exact ⟨k, A, c, _, h1, h2, h3, limbsN_len _ (by decide), h4⟩
theorem of_max (w : World) : Calls Tryz.prog 41 #[.int .i64 9223372036854775807] w fun e w' => ∃ k A c M, e = .returned (.agg #[.bool k, .slice A (List.length M) c]) ∧ IntR w' w'.heap.size k A c M ∧ zI k M = maxI ∧ List.length M ≤ 3 ∧ Below w.heap.size w w' := by
 refine (of_any 9223372036854775807 w (by omega) (by omega)).mono ?_
 rintro e w' ⟨k, A, c, h1, h2, h3, h4⟩
 exact ⟨k, A, c, _, h1, h2, h3, limbsN_len _ (by decide), h4⟩
theorem small_below (n : Bool) (A : Option Addr) (c : Nat) (L : List Nat) (w : World) (hl : L.length ≤ 100000) (hL : IntR w w.heap.size n A c L) (hz : zI n L < minI) :
  Calls Tryz.prog 91 #[.agg #[.bool n, .slice A L.length c]] w fun e w' => e = .returned (.tuple #[.int .i64 0, .bool false]) ∧ Below w.heap.size w w' := by
 have hC := fun (k : Bool) (A2 : Option Addr) (c2 : Nat) (M : List Nat) W (hM : zI k M = minI) (hml : M.length ≤ 3) (h1 : IntR W W.heap.size n A c L) (h2 : IntR W W.heap.size k A2 c2 M) =>
  (show Calls Tryz.prog 43 #[.agg #[.bool n, .slice A L.length c], .agg #[.bool k, .slice A2 M.length c2]] W fun e w' => e = .returned (.int .i64 (-1)) ∧ Below W.heap.size W w' from by
   have := cmp_any n k A A2 c c2 L M W (by omega) (by omega) h1 h2
   rw [hM, show cmpI (zI n L) minI = -1 by unfold cmpI; rw [if_pos hz]] at this
   exact this)
 have HC := Lib.hid hC
 clear hC hz
 generalize hl' : L.length = l at *
 have HLL := Lib.hid hl'
 clear hl'
 go_enter Tryz.func91, Tryz.ntmps91
 go_wp2
 go_region_with (first
  | (go_at_call 41; (with_reducible refine (of_min _).mono ?_); rintro e w1 ⟨k, A2, c2, M, rfl, hi, hzm, hml, hb1⟩; have X := boxed (below_undrew hb1); have hx0 := X.1; have hx1 := X.2.1; have HB1 := Lib.hid ((below_alloc_new _).trans (Below.less X.2.2.2 (Nat.le_succ _))); clear X hb1)
  | (go_at_call 43; (with_reducible refine (HC.out k A2 c2 M _ hzm hml (hL.up HB1.out) hi).mono ?_); rintro e w2 ⟨rfl, hb2⟩))
 all_goals
  go_wp2
  go_ret2
  exact ⟨rfl, HB1.out.trans (Below.less hb2 HB1.out.size)⟩
theorem wrap64_back {v : Int} (h1 : 0 ≤ v) (h2 : v ≤ 9223372036854775808) : wrap64 (IntKind.u64.wrap (-v)) = -v := by
 simp only [wrap64, IntKind.wrap, IntKind.signed, IntKind.bits, Bool.false_and, Bool.false_eq_true, if_false]
 omega
theorem tup_eq {a b : Int} {c : Bool} (h : a = b) : Ending.returned (.tuple #[.int .i64 a, .bool c]) = .returned (.tuple #[.int .i64 b, .bool c]) := by rw [h]
theorem small_above (n : Bool) (A : Option Addr) (c : Nat) (L : List Nat) (w : World) (hl : L.length ≤ 100000) (hL : IntR w w.heap.size n A c L) (hz : maxI < zI n L) :
  Calls Tryz.prog 91 #[.agg #[.bool n, .slice A L.length c]] w fun e w' => e = .returned (.tuple #[.int .i64 0, .bool false]) ∧ Below w.heap.size w w' := by
 have hmm : minI ≤ maxI := by decide
 have hCA := fun (k : Bool) (A2 : Option Addr) (c2 : Nat) (M : List Nat) W (hM : zI k M = minI) (hml : M.length ≤ 3) (h1 : IntR W W.heap.size n A c L) (h2 : IntR W W.heap.size k A2 c2 M) =>
  (show Calls Tryz.prog 43 #[.agg #[.bool n, .slice A L.length c], .agg #[.bool k, .slice A2 M.length c2]] W fun e w' => e = .returned (.int .i64 (cmpI (zI n L) minI)) ∧ Below W.heap.size W w' from by
   have := cmp_any n k A A2 c c2 L M W (by omega) (by omega) h1 h2
   rw [hM] at this
   exact this)
 have hCB := fun (k : Bool) (A2 : Option Addr) (c2 : Nat) (M : List Nat) W (hM : zI k M = maxI) (hml : M.length ≤ 3) (h1 : IntR W W.heap.size n A c L) (h2 : IntR W W.heap.size k A2 c2 M) =>
  (show Calls Tryz.prog 43 #[.agg #[.bool n, .slice A L.length c], .agg #[.bool k, .slice A2 M.length c2]] W fun e w' => e = .returned (.int .i64 (cmpI (zI n L) maxI)) ∧ Below W.heap.size W w' from by
   have := cmp_any n k A A2 c c2 L M W (by omega) (by omega) h1 h2
   rw [hM] at this
   exact this)
 have hqa : cmpI (zI n L) minI = 0 ∨ cmpI (zI n L) minI = 1 := by unfold cmpI; rw [if_neg (by omega)]; split <;> simp
 have hqb : cmpI (zI n L) maxI = 1 := by unfold cmpI; rw [if_neg (by omega), if_neg (by omega)]
 rcases hqa with e | e
 all_goals
  rw [e] at hCA
  rw [hqb] at hCB
  have HCA := Lib.hid hCA
  have HCB := Lib.hid hCB
  clear hCA hCB e hqb hz hmm
  generalize hl' : L.length = l at *
  have HLL := Lib.hid hl'
  clear hl'
  have Y := boxed (w := w) (x := .bool n) (y := .slice A l c) (t := 25) (Below.refl _ _)
  have hy0 := Y.1
  have hy1 := Y.2.1
  clear Y
  have HC := Lib.hid (below_drew (Below.refl (w.heap.size + 1) (w.alloc (.cells #[.bool n, .slice A l c] 25))))
  have hf0 := hy0
  have hf1 := hy1
  go_enter Tryz.func91, Tryz.ntmps91
  go_wp2
  go_region_held3 (fun w' => w'.cell? ⟨w.heap.size, 0, none⟩ = some (.bool n) ∧ w'.cell? ⟨w.heap.size, 1, none⟩ = some (.slice A l c)) (go_keep)
   (first
    | (go_at_call 41; (first | ((with_reducible refine (of_min _).mono ?_); rintro e w4 ⟨k, A2, c2, M, rfl, hi, hzm, hml, hb4⟩) | ((with_reducible refine (of_max _).mono ?_); rintro e w4 ⟨k, A2, c2, M, rfl, hi, hzm, hml, hb4⟩)); have HZM := Lib.hid hzm; have HI := Lib.hid hi; clear hzm hi; have HC9 := Lib.hid (below_then HC.out hb4 (below_sz HC.out)); clear HC hf0 hf1; have HC := HC9; clear HC9 hb4; have hf0 := (below_atB (i := 0) HC.out (Nat.lt_succ_self _)).trans hy0; have hf1 := (below_atB (i := 1) HC.out (Nat.lt_succ_self _)).trans hy1)
    | (go_at_call 43; (first | (with_reducible refine (HCA.out k A2 c2 M _ HZM.out hml (hL.up (up4 HC.out)) HI.out).mono ?_) | (with_reducible refine (HCB.out k A2 c2 M _ HZM.out hml (hL.up (up4 HC.out)) HI.out).mono ?_)); rintro e w4 ⟨rfl, hb4⟩; have HC9 := Lib.hid (below_then HC.out hb4 (below_sz HC.out)); clear HC hf0 hf1; have HC := HC9; clear HC9 hb4; have hf0 := (below_atB (i := 0) HC.out (Nat.lt_succ_self _)).trans hy0; have hf1 := (below_atB (i := 1) HC.out (Nat.lt_succ_self _)).trans hy1))
  all_goals
   go_wp2
   go_ret2
   exact ⟨rfl, up4 HC.out⟩
theorem small_in_neg (A : Option Addr) (c : Nat) (L : List Nat) (w : World) (hl : L.length ≤ 100000) (hL : IntR w w.heap.size true A c L) (hz1 : minI ≤ zI true L) (hz2 : zI true L ≤ maxI) :
  Calls Tryz.prog 91 #[.agg #[.bool true, .slice A L.length c]] w fun e w' => e = .returned (.tuple #[.int .i64 (zI true L), .bool true]) ∧ Below w.heap.size w w' := by
 have hvb : (val9 L : Int) ≤ 9223372036854775808 ∧ (true = false → (val9 L : Int) ≤ 9223372036854775807) := by
  unfold zI minI maxI at *
  simp at hz1 hz2 ⊢
  omega
 have hW := fun W (h1 : Row .u32 W W.heap.size A c L) => wordOf_any A c L W (by omega) (by omega) h1 hL.canon.lim
 have HW := Lib.hid hW
 clear hW
 have HVB := Lib.hid hvb
 clear hvb
 have hCA := fun (k : Bool) (A2 : Option Addr) (c2 : Nat) (M : List Nat) W (hM : zI k M = minI) (hml : M.length ≤ 3) (h1 : IntR W W.heap.size true A c L) (h2 : IntR W W.heap.size k A2 c2 M) =>
  (show Calls Tryz.prog 43 #[.agg #[.bool true, .slice A L.length c], .agg #[.bool k, .slice A2 M.length c2]] W fun e w' => e = .returned (.int .i64 (cmpI (zI true L) minI)) ∧ Below W.heap.size W w' from by
   have := cmp_any true k A A2 c c2 L M W (by omega) (by omega) h1 h2
   rw [hM] at this
   exact this)
 have hCB := fun (k : Bool) (A2 : Option Addr) (c2 : Nat) (M : List Nat) W (hM : zI k M = maxI) (hml : M.length ≤ 3) (h1 : IntR W W.heap.size true A c L) (h2 : IntR W W.heap.size k A2 c2 M) =>
  (show Calls Tryz.prog 43 #[.agg #[.bool true, .slice A L.length c], .agg #[.bool k, .slice A2 M.length c2]] W fun e w' => e = .returned (.int .i64 (cmpI (zI true L) maxI)) ∧ Below W.heap.size W w' from by
   have := cmp_any true k A A2 c c2 L M W (by omega) (by omega) h1 h2
   rw [hM] at this
   exact this)
 have hqa : cmpI (zI true L) minI = 0 ∨ cmpI (zI true L) minI = 1 := by unfold cmpI; rw [if_neg (by omega)]; split <;> simp
 have hqb : cmpI (zI true L) maxI = -1 ∨ cmpI (zI true L) maxI = 0 := by
  unfold cmpI
  by_cases h : zI true L < maxI
  ·rw [if_pos h]; simp
  ·rw [if_neg h, if_pos (by omega)]; simp
 rcases hqa with e | e <;> rcases hqb with e2 | e2
 all_goals
  rw [e] at hCA
  rw [e2] at hCB
  have HCA := Lib.hid hCA
  have HCB := Lib.hid hCB
  clear hCA hCB e e2 hz1 hz2
  generalize hl' : L.length = l at *
  have HLL := Lib.hid hl'
  clear hl'
  have Y := boxed (w := w) (x := .bool true) (y := .slice A l c) (t := 25) (Below.refl _ _)
  have hy0 := Y.1
  have hy1 := Y.2.1
  clear Y
  have HC := Lib.hid (below_drew (Below.refl (w.heap.size + 1) (w.alloc (.cells #[.bool true, .slice A l c] 25))))
  have hf0 := hy0
  have hf1 := hy1
  go_enter Tryz.func91, Tryz.ntmps91
  go_wp2
  go_region_held3 (fun w' => w'.cell? ⟨w.heap.size, 0, none⟩ = some (.bool true) ∧ w'.cell? ⟨w.heap.size, 1, none⟩ = some (.slice A l c)) (go_keep)
   (first
    | (go_at_call 41; (first | ((with_reducible refine (of_min _).mono ?_); rintro e w4 ⟨k, A2, c2, M, rfl, hi, hzm, hml, hb4⟩) | ((with_reducible refine (of_max _).mono ?_); rintro e w4 ⟨k, A2, c2, M, rfl, hi, hzm, hml, hb4⟩)); have HZM := Lib.hid hzm; have HI := Lib.hid hi; clear hzm hi; have HC9 := Lib.hid (below_then HC.out hb4 (below_sz HC.out)); clear HC hf0 hf1; have HC := HC9; clear HC9 hb4; have hf0 := (below_atB (i := 0) HC.out (Nat.lt_succ_self _)).trans hy0; have hf1 := (below_atB (i := 1) HC.out (Nat.lt_succ_self _)).trans hy1)
    | (go_at_call 43; (first | (with_reducible refine (HCA.out k A2 c2 M _ HZM.out hml (hL.up (up4 HC.out)) HI.out).mono ?_) | (with_reducible refine (HCB.out k A2 c2 M _ HZM.out hml (hL.up (up4 HC.out)) HI.out).mono ?_)); rintro e w4 ⟨rfl, hb4⟩; have HC9 := Lib.hid (below_then HC.out hb4 (below_sz HC.out)); clear HC hf0 hf1; have HC := HC9; clear HC9 hb4; have hf0 := (below_atB (i := 0) HC.out (Nat.lt_succ_self _)).trans hy0; have hf1 := (below_atB (i := 1) HC.out (Nat.lt_succ_self _)).trans hy1))
  all_goals
   go_wp2_with fail
  all_goals
   refine (HW.out _ (hL.row.up (up4 HC.out))).mono ?_
   rintro e w5 ⟨rfl, rfl⟩
   have hv := HVB.out
   have hv0 : (0 : Int) ≤ (val9 L : Int) := by omega
   go_wp2_with fail
   go_ret2
   exact ⟨tup_eq (wrap64_back hv0 hv.1), up4 HC.out⟩
theorem small_in_pos (A : Option Addr) (c : Nat) (L : List Nat) (w : World) (hl : L.length ≤ 100000) (hL : IntR w w.heap.size false A c L) (hz1 : minI ≤ zI false L) (hz2 : zI false L ≤ maxI) :
  Calls Tryz.prog 91 #[.agg #[.bool false, .slice A L.length c]] w fun e w' => e = .returned (.tuple #[.int .i64 (zI false L), .bool true]) ∧ Below w.heap.size w w' := by
 have hvb : (val9 L : Int) ≤ 9223372036854775808 ∧ (false = false → (val9 L : Int) ≤ 9223372036854775807) := by
  unfold zI minI maxI at *
  simp at hz1 hz2 ⊢
  omega
 have hW := fun W (h1 : Row .u32 W W.heap.size A c L) => wordOf_any A c L W (by omega) (by omega) h1 hL.canon.lim
 have HW := Lib.hid hW
 clear hW
 have HVB := Lib.hid hvb
 clear hvb
 have hCA := fun (k : Bool) (A2 : Option Addr) (c2 : Nat) (M : List Nat) W (hM : zI k M = minI) (hml : M.length ≤ 3) (h1 : IntR W W.heap.size false A c L) (h2 : IntR W W.heap.size k A2 c2 M) =>
  (show Calls Tryz.prog 43 #[.agg #[.bool false, .slice A L.length c], .agg #[.bool k, .slice A2 M.length c2]] W fun e w' => e = .returned (.int .i64 (cmpI (zI false L) minI)) ∧ Below W.heap.size W w' from by
   have := cmp_any false k A A2 c c2 L M W (by omega) (by omega) h1 h2
   rw [hM] at this
   exact this)
 have hCB := fun (k : Bool) (A2 : Option Addr) (c2 : Nat) (M : List Nat) W (hM : zI k M = maxI) (hml : M.length ≤ 3) (h1 : IntR W W.heap.size false A c L) (h2 : IntR W W.heap.size k A2 c2 M) =>
  (show Calls Tryz.prog 43 #[.agg #[.bool false, .slice A L.length c], .agg #[.bool k, .slice A2 M.length c2]] W fun e w' => e = .returned (.int .i64 (cmpI (zI false L) maxI)) ∧ Below W.heap.size W w' from by
   have := cmp_any false k A A2 c c2 L M W (by omega) (by omega) h1 h2
   rw [hM] at this
   exact this)
 have hqa : cmpI (zI false L) minI = 0 ∨ cmpI (zI false L) minI = 1 := by unfold cmpI; rw [if_neg (by omega)]; split <;> simp
 have hqb : cmpI (zI false L) maxI = -1 ∨ cmpI (zI false L) maxI = 0 := by
  unfold cmpI
  by_cases h : zI false L < maxI
  ·rw [if_pos h]; simp
  ·rw [if_neg h, if_pos (by omega)]; simp
 rcases hqa with e | e <;> rcases hqb with e2 | e2
 all_goals
  rw [e] at hCA
  rw [e2] at hCB
  have HCA := Lib.hid hCA
  have HCB := Lib.hid hCB
  clear hCA hCB e e2 hz1 hz2
  generalize hl' : L.length = l at *
  have HLL := Lib.hid hl'
  clear hl'
  have Y := boxed (w := w) (x := .bool false) (y := .slice A l c) (t := 25) (Below.refl _ _)
  have hy0 := Y.1
  have hy1 := Y.2.1
  clear Y
  have HC := Lib.hid (below_drew (Below.refl (w.heap.size + 1) (w.alloc (.cells #[.bool false, .slice A l c] 25))))
  have hf0 := hy0
  have hf1 := hy1
  go_enter Tryz.func91, Tryz.ntmps91
  go_wp2
  go_region_held3 (fun w' => w'.cell? ⟨w.heap.size, 0, none⟩ = some (.bool false) ∧ w'.cell? ⟨w.heap.size, 1, none⟩ = some (.slice A l c)) (go_keep)
   (first
    | (go_at_call 41; (first | ((with_reducible refine (of_min _).mono ?_); rintro e w4 ⟨k, A2, c2, M, rfl, hi, hzm, hml, hb4⟩) | ((with_reducible refine (of_max _).mono ?_); rintro e w4 ⟨k, A2, c2, M, rfl, hi, hzm, hml, hb4⟩)); have HZM := Lib.hid hzm; have HI := Lib.hid hi; clear hzm hi; have HC9 := Lib.hid (below_then HC.out hb4 (below_sz HC.out)); clear HC hf0 hf1; have HC := HC9; clear HC9 hb4; have hf0 := (below_atB (i := 0) HC.out (Nat.lt_succ_self _)).trans hy0; have hf1 := (below_atB (i := 1) HC.out (Nat.lt_succ_self _)).trans hy1)
    | (go_at_call 43; (first | (with_reducible refine (HCA.out k A2 c2 M _ HZM.out hml (hL.up (up4 HC.out)) HI.out).mono ?_) | (with_reducible refine (HCB.out k A2 c2 M _ HZM.out hml (hL.up (up4 HC.out)) HI.out).mono ?_)); rintro e w4 ⟨rfl, hb4⟩; have HC9 := Lib.hid (below_then HC.out hb4 (below_sz HC.out)); clear HC hf0 hf1; have HC := HC9; clear HC9 hb4; have hf0 := (below_atB (i := 0) HC.out (Nat.lt_succ_self _)).trans hy0; have hf1 := (below_atB (i := 1) HC.out (Nat.lt_succ_self _)).trans hy1))
  all_goals
   go_wp2_with fail
  all_goals
   refine (HW.out _ (hL.row.up (up4 HC.out))).mono ?_
   rintro e w5 ⟨rfl, rfl⟩
   have hv := HVB.out
   have hv0 : (0 : Int) ≤ (val9 L : Int) := by omega
   go_wp2_with fail
   go_ret2
   exact ⟨tup_eq (IntWalk.wrap64_in _ ⟨by omega, by have := hv.2 trivial; omega⟩), up4 HC.out⟩
set_option maxHeartbeats 3200000
set_option maxRecDepth 20000
theorem rof_fact {n : Int} {w : World} (h1 : -9223372036854775808 ≤ n) (h2 : n ≤ 9223372036854775807) :
  Calls Tryz.prog 86 #[.int .i64 n] w fun e w' => ∃ v, e = .returned v ∧ PRef n 5 v w' ∧ Below w.heap.size w w' := by
 refine (rof_any n w h1 h2).mono ?_
 rintro e w' ⟨k, A, c, R, rfl, hr, hz, hl, hb⟩
 exact ⟨_, rfl, ⟨k, A, c, R, rfl, hr, hz, hl⟩, hb⟩
def inR (z : Int) : Prop := minI ≤ z ∧ z ≤ maxI
def smB (z : Int) : Bool := decide (-9223372036854775808 ≤ z) && decide (z ≤ 9223372036854775807)
def smN (z : Int) : Int := if smB z then z else 0
theorem smB_in {z : Int} (h : inR z) : smB z = true := by unfold inR minI maxI at h; unfold smB; simp; omega
theorem smB_out {z : Int} (h : ¬ inR z) : smB z = false := by unfold inR minI maxI at h; unfold smB; simp; omega
theorem small_fact {z : Int} {n : Nat} {a : Value} {w : World} (h1 : PInt z n a w) (hn : n ≤ 100000) :
  Calls Tryz.prog 91 #[a] w fun e w' => e = .returned (.tuple #[.int .i64 (smN z), .bool (smB z)]) ∧ Below w.heap.size w w' := by
 obtain ⟨k, A, c, L, rfl, i1, rfl, l1⟩ := h1
 unfold smN
 by_cases h : inR (zI k L)
 ·rw [smB_in h, if_pos rfl]
  cases k
  ·exact small_in_pos A c L w (by omega) i1 h.1 h.2
  ·exact small_in_neg A c L w (by omega) i1 h.1 h.2
 ·rw [smB_out h, if_neg (by simp)]
  unfold inR at h
  by_cases h2 : zI k L < minI
  ·exact small_below k A c L w (by omega) i1 h2
  ·exact small_above k A c L w (by omega) i1 (by omega)
def divr (a b : Int) : Int := if b < 0 then -(Int.gcd a b : Int) else (Int.gcd a b : Int)
theorem red_num {a b : Int} (hb : b ≠ 0) : Int.tdiv a (divr a b) = (Rat.divInt a b).num := by
 have hd : (Int.gcd a b : Int) ∣ a := Int.gcd_dvd_left _ _
 rw [Rat.num_divInt, Int.gcd_comm b a]
 unfold divr
 split
 ·rename_i h
  rw [Int.tdiv_neg, Int.tdiv_eq_ediv_of_dvd hd, Int.sign_eq_neg_one_of_neg h, Int.neg_mul, Int.one_mul, Int.neg_ediv_of_dvd hd]
 ·rename_i h
  rw [Int.tdiv_eq_ediv_of_dvd hd, Int.sign_eq_one_of_pos (by omega), Int.one_mul]
theorem red_den {a b : Int} (hb : b ≠ 0) : Int.tdiv b (divr a b) = ((Rat.divInt a b).den : Int) := by
 have hd : (Int.gcd a b : Int) ∣ b := Int.gcd_dvd_right _ _
 rw [Rat.den_divInt, if_neg hb, Int.gcd_comm b a, Int.natCast_ediv]
 unfold divr
 split
 ·rename_i h
  rw [Int.tdiv_neg, Int.tdiv_eq_ediv_of_dvd hd, Int.ofNat_natAbs_of_nonpos (by omega), Int.neg_ediv_of_dvd hd]
 ·rename_i h
  rw [Int.tdiv_eq_ediv_of_dvd hd, Int.natAbs_of_nonneg (by omega)]
theorem add_terms (x y : Rat) : Rat.divInt (x.num * y.den + y.num * x.den) (x.den * y.den) = x + y := by
 rw [Rat.add_def', ← Int.natCast_mul, Rat.divInt_ofNat]
theorem mul_terms (x y : Rat) : Rat.divInt (x.num * y.num) (x.den * y.den) = x * y := by
 rw [Rat.mul_def', ← Int.natCast_mul, Rat.divInt_ofNat]
def rndI (a b : Int) : Int := if a < 0 then -((2 * -a + b) / (2 * b)) else (2 * a + b) / (2 * b)
theorem near_eq (a b : Int) (hb : 0 < b) : Int.tdiv (a * 2 + (if a < 0 then -b else b)) (b * 2) = rndI a b := by
 unfold rndI
 split
 ·rename_i h
  rw [show a * 2 + -b = -(2 * -a + b) by omega, Int.neg_tdiv, Int.tdiv_eq_ediv_of_nonneg (by omega), Int.mul_comm b 2]
 ·rename_i h
  rw [Int.tdiv_eq_ediv_of_nonneg (by omega), Int.mul_comm b 2, Int.mul_comm a 2]
theorem ediv_mono {a b c d : Int} (hb : 0 < b) (hd : 0 < d) (h : a * d ≤ c * b) : a / b ≤ c / d := by
 rw [Int.le_ediv_iff_mul_le hd]
 have h1 : a / b * b ≤ a := Int.ediv_mul_le _ (by omega)
 have h2 : a / b * b * d ≤ a * d := Int.mul_le_mul_of_nonneg_right h1 (by omega)
 have h3 : a / b * d * b ≤ c * b := by
  have : a / b * b * d = a / b * d * b := by grind
  omega
 exact Int.le_of_mul_le_mul_right h3 hb
theorem rndI_mono {a b c d : Int} (hb : 0 < b) (hd : 0 < d) (h : a * d ≤ c * b) : rndI a b ≤ rndI c d := by
 unfold rndI
 have e1 : (2 * a + b) * (2 * d) = 4 * (a * d) + 2 * (b * d) := by grind
 have e2 : (2 * c + d) * (2 * b) = 4 * (c * b) + 2 * (b * d) := by grind
 have e3 : (2 * -c + d) * (2 * b) = -(4 * (c * b)) + 2 * (b * d) := by grind
 have e4 : (2 * -a + b) * (2 * d) = -(4 * (a * d)) + 2 * (b * d) := by grind
 split <;> split
 ·have := ediv_mono (a := 2 * -c + d) (b := 2 * d) (c := 2 * -a + b) (d := 2 * b) (by omega) (by omega) (by omega)
  omega
 ·have h1 : 0 ≤ (2 * -a + b) / (2 * b) := Int.ediv_nonneg (by omega) (by omega)
  have h2 : 0 ≤ (2 * c + d) / (2 * d) := Int.ediv_nonneg (by omega) (by omega)
  omega
 ·exfalso
  rename_i h1 h2
  have h3 : 0 ≤ a * d := Int.mul_nonneg (by omega) (by omega)
  have h4 : c * b < 0 := Int.mul_neg_of_neg_of_pos h2 hb
  omega
 ·exact ediv_mono (by omega) (by omega) (by omega)
theorem rndI_eq {a b c d : Int} (hb : 0 < b) (hd : 0 < d) (h : a * d = c * b) : rndI a b = rndI c d :=
 Int.le_antisymm (rndI_mono hb hd (by omega)) (rndI_mono hd hb (by omega))
def rndQ (x : Rat) : Int := rndI x.num x.den
theorem rndQ_divInt (a b : Int) (hb : 0 < b) : rndQ (Rat.divInt a b) = rndI a b := by
 unfold rndQ
 have h1 : ((Rat.divInt a b).den : Int) ≠ 0 := by have := (Rat.divInt a b).den_pos; omega
 have h2 : Rat.divInt (Rat.divInt a b).num ((Rat.divInt a b).den : Int) = Rat.divInt a b := Rat.num_divInt_den _
 rw [Rat.divInt_eq_divInt_iff h1 (by omega)] at h2
 exact rndI_eq (by have := (Rat.divInt a b).den_pos; omega) hb h2
open AS (Keep NoInt)
theorem Row.kept {k : IntKind} {w w' : World} {A : Option Addr} {c : Nat} {L : List Nat} (h : Row k w w.heap.size A c L) (hk : Keep w w') : Row k w' w'.heap.size A c L := by
 refine ⟨h.len, fun hp => ?_⟩
 obtain ⟨b, o, e, hb, hc⟩ := h.spot hp
 exact ⟨b, o, e, Nat.lt_of_lt_of_le hb hk.size, fun j hj => (hk.cell hb (hc 0 hp)).trans (hc j hj)⟩
theorem IntR.kept {w w' : World} {n : Bool} {A : Option Addr} {c : Nat} {L : List Nat} (h : IntR w w.heap.size n A c L) (hk : Keep w w') : IntR w' w'.heap.size n A c L := ⟨h.row.kept hk, h.canon, h.sgn⟩
theorem RefR.kept {w w' : World} {n : Bool} {A : Option Addr} {c : Nat} {L : List Nat} (h : RefR w w.heap.size n A c L) (hk : Keep w w') : RefR w' w'.heap.size n A c L := ⟨h.row.kept hk, h.lim, h.top, h.sgn⟩
theorem PInt.kept {z : Int} {n : Nat} {v : Value} {w w' : World} (h : PInt z n v w) (hk : Keep w w') : PInt z n v w' := by
 obtain ⟨k, A, c, L, h1, h2, h3⟩ := h
 exact ⟨k, A, c, L, h1, h2.kept hk, h3⟩
theorem PRef.kept {z : Int} {n : Nat} {v : Value} {w w' : World} (h : PRef z n v w) (hk : Keep w w') : PRef z n v w' := by
 obtain ⟨k, A, c, L, h1, h2, h3⟩ := h
 exact ⟨k, A, c, L, h1, h2.kept hk, h3⟩
theorem PRef.more {z : Int} {n m : Nat} {v : Value} {w : World} (h : PRef z n v w) (hm : n ≤ m) : PRef z m v w := by
 obtain ⟨k, A, c, L, h1, h2, h3, h4⟩ := h
 exact ⟨k, A, c, L, h1, h2, h3, by omega⟩
section
variable {t : TypeId} {w w' : World} {g : Nat} {vs : List Value}
theorem Keep.set {w0 : World} (hk : Keep w0 w) (h : Bx t w g vs) (i : Nat) {v : Value} (hv : Leaf v) : Keep w0 (w.setCell ⟨g, i, none⟩ v) := hk.trans (Keep.setCell h i hv)
theorem Keep.set2 {w0 : World} {a b a' b' : Value} (hk : Keep w0 w) (h : Bx t w g [a, b]) (ha : Leaf a') (hb : Leaf b') : Keep w0 ((w.setCell ⟨g, 0, none⟩ a').setCell ⟨g, 1, none⟩ b') := Keep.set (Keep.set hk h 0 ha) (Bx.set h 0 ha) 1 hb
theorem Keep.set4 {w0 : World} {a b c d a' b' c' d' : Value} (hk : Keep w0 w) (h : Bx t w g [a, b, c, d]) (ha : Leaf a') (hb : Leaf b') (hc : Leaf c') (hd : Leaf d') : Keep w0 ((((w.setCell ⟨g, 0, none⟩ a').setCell ⟨g, 1, none⟩ b').setCell ⟨g, 2, none⟩ c').setCell ⟨g, 3, none⟩ d') :=
 Keep.set (Keep.set (Keep.set (Keep.set hk h 0 ha) (Bx.set h 0 ha) 1 hb) (Bx.set (Bx.set h 0 ha) 1 hb) 2 hc) (Bx.set (Bx.set (Bx.set h 0 ha) 1 hb) 2 hc) 3 hd
theorem Keep.alloc {w0 : World} (hk : Keep w0 w) (o : Obj) : Keep w0 (w.alloc o) := hk.trans (Keep.ofBelow (below_alloc_new _))
theorem Keep.drew {w0 : World} (hk : Keep w0 w) : Keep w0 w.drew := hk.trans (Keep.ofBelow (below_drew (Below.refl _ _)))
theorem leaf2 {x y : Value} (hx : Leaf x) (hy : Leaf y) : ∀ v ∈ [x, y], Leaf v := by intro v hv; simp at hv; rcases hv with rfl | rfl <;> assumption
theorem leaf4 {x y z u : Value} (hx : Leaf x) (hy : Leaf y) (hz : Leaf z) (hu : Leaf u) : ∀ v ∈ [x, y, z, u], Leaf v := by intro v hv; simp at hv; rcases hv with rfl | rfl | rfl | rfl <;> assumption
end
theorem lf2 {k : Bool} {A : Option Addr} {l c : Nat} : ∀ v ∈ [Value.bool k, .slice A l c], Leaf v := leaf2 (Leaf.bool _) (Leaf.slice _ _ _)
theorem lf4 {k m : Bool} {A E : Option Addr} {l c p q : Nat} : ∀ v ∈ [Value.bool k, .slice A l c, .bool m, .slice E p q], Leaf v := leaf4 (Leaf.bool _) (Leaf.slice _ _ _) (Leaf.bool _) (Leaf.slice _ _ _)
theorem new1 (W : World) (t1 : TypeId) (v1 : List Value) (h1 : ∀ v ∈ v1, Leaf v) : Bx t1 (W.alloc (.cells v1.toArray t1)) W.heap.size v1 ∧ Below W.heap.size W (W.alloc (.cells v1.toArray t1)) := ⟨Bx.new t1 W v1 h1, below_alloc_new _⟩
theorem new2 (W : World) (t1 : TypeId) (v1 : List Value) (t2 : TypeId) (v2 : List Value) (h1 : ∀ v ∈ v1, Leaf v) (h2 : ∀ v ∈ v2, Leaf v) :
  Bx t1 ((W.alloc (.cells v1.toArray t1)).alloc (.cells v2.toArray t2)) W.heap.size v1 ∧ Bx t2 ((W.alloc (.cells v1.toArray t1)).alloc (.cells v2.toArray t2)) (W.heap.size + 1) v2 ∧ Below W.heap.size W ((W.alloc (.cells v1.toArray t1)).alloc (.cells v2.toArray t2)) := by
 obtain ⟨a, b⟩ := new1 W t1 v1 h1
 obtain ⟨c, d⟩ := new1 (W.alloc (.cells v1.toArray t1)) t2 v2 h2
 rw [show (W.alloc (.cells v1.toArray t1)).heap.size = W.heap.size + 1 by simp] at c
 exact ⟨a.up d, c, below_then b d b.size⟩
theorem new3 (W : World) (t1 : TypeId) (v1 : List Value) (t2 : TypeId) (v2 : List Value) (t3 : TypeId) (v3 : List Value) (h1 : ∀ v ∈ v1, Leaf v) (h2 : ∀ v ∈ v2, Leaf v) (h3 : ∀ v ∈ v3, Leaf v) :
  Bx t1 (((W.alloc (.cells v1.toArray t1)).alloc (.cells v2.toArray t2)).alloc (.cells v3.toArray t3)) W.heap.size v1 ∧ Bx t2 (((W.alloc (.cells v1.toArray t1)).alloc (.cells v2.toArray t2)).alloc (.cells v3.toArray t3)) (W.heap.size + 1) v2 ∧
  Bx t3 (((W.alloc (.cells v1.toArray t1)).alloc (.cells v2.toArray t2)).alloc (.cells v3.toArray t3)) (W.heap.size + 1 + 1) v3 ∧ Below W.heap.size W (((W.alloc (.cells v1.toArray t1)).alloc (.cells v2.toArray t2)).alloc (.cells v3.toArray t3)) := by
 obtain ⟨a, b, e⟩ := new2 W t1 v1 t2 v2 h1 h2
 obtain ⟨c, d⟩ := new1 ((W.alloc (.cells v1.toArray t1)).alloc (.cells v2.toArray t2)) t3 v3 h3
 rw [show ((W.alloc (.cells v1.toArray t1)).alloc (.cells v2.toArray t2)).heap.size = W.heap.size + 1 + 1 by simp] at c
 exact ⟨a.up d, b.up d, c, below_then e d e.size⟩
theorem new4 (W : World) (t1 : TypeId) (v1 : List Value) (t2 : TypeId) (v2 : List Value) (t3 : TypeId) (v3 : List Value) (t4 : TypeId) (v4 : List Value) (h1 : ∀ v ∈ v1, Leaf v) (h2 : ∀ v ∈ v2, Leaf v) (h3 : ∀ v ∈ v3, Leaf v) (h4 : ∀ v ∈ v4, Leaf v) :
  Bx t1 ((((W.alloc (.cells v1.toArray t1)).alloc (.cells v2.toArray t2)).alloc (.cells v3.toArray t3)).alloc (.cells v4.toArray t4)) W.heap.size v1 ∧ Bx t2 ((((W.alloc (.cells v1.toArray t1)).alloc (.cells v2.toArray t2)).alloc (.cells v3.toArray t3)).alloc (.cells v4.toArray t4)) (W.heap.size + 1) v2 ∧
  Bx t3 ((((W.alloc (.cells v1.toArray t1)).alloc (.cells v2.toArray t2)).alloc (.cells v3.toArray t3)).alloc (.cells v4.toArray t4)) (W.heap.size + 1 + 1) v3 ∧ Bx t4 ((((W.alloc (.cells v1.toArray t1)).alloc (.cells v2.toArray t2)).alloc (.cells v3.toArray t3)).alloc (.cells v4.toArray t4)) (W.heap.size + 1 + 1 + 1) v4 ∧
  Below W.heap.size W ((((W.alloc (.cells v1.toArray t1)).alloc (.cells v2.toArray t2)).alloc (.cells v3.toArray t3)).alloc (.cells v4.toArray t4)) := by
 obtain ⟨a, b, c, e⟩ := new3 W t1 v1 t2 v2 t3 v3 h1 h2 h3
 obtain ⟨g, d⟩ := new1 (((W.alloc (.cells v1.toArray t1)).alloc (.cells v2.toArray t2)).alloc (.cells v3.toArray t3)) t4 v4 h4
 rw [show (((W.alloc (.cells v1.toArray t1)).alloc (.cells v2.toArray t2)).alloc (.cells v3.toArray t3)).heap.size = W.heap.size + 1 + 1 + 1 by simp] at g
 exact ⟨a.up d, b.up d, c.up d, g, below_then e d e.size⟩
def PRat (x : Rat) (n : Nat) (v : Value) (w : World) : Prop := ∃ (p q : Int) (k : Bool) (A : Option Addr) (l c : Nat) (k' : Bool) (A' : Option Addr) (l' c' : Nat), v = .agg #[.bool k, .slice A l c, .bool k', .slice A' l' c'] ∧ PInt p n (.agg #[.bool k, .slice A l c]) w ∧ PInt q n (.agg #[.bool k', .slice A' l' c']) w ∧ ((p = x.num ∧ q = x.den) ∨ (p = 0 ∧ q = 0 ∧ x = 0))
def RRat (x : Rat) (n : Nat) (v : Value) (w : World) : Prop := ∃ (p q : Int) (k : Bool) (A : Option Addr) (l c : Nat) (k' : Bool) (A' : Option Addr) (l' c' : Nat), v = .agg #[.bool k, .slice A l c, .bool k', .slice A' l' c'] ∧ PRef p n (.agg #[.bool k, .slice A l c]) w ∧ PRef q n (.agg #[.bool k', .slice A' l' c']) w ∧ ((p = x.num ∧ q = x.den) ∨ (p = 0 ∧ q = 0 ∧ x = 0))
theorem PRat.kept {x : Rat} {n : Nat} {v : Value} {w w' : World} (h : PRat x n v w) (hk : Keep w w') : PRat x n v w' := by
 obtain ⟨p, q, k, A, l, c, k', A', l', c', rfl, h1, h2, h3⟩ := h
 exact ⟨p, q, k, A, l, c, k', A', l', c', rfl, h1.kept hk, h2.kept hk, h3⟩
theorem RRat.kept {x : Rat} {n : Nat} {v : Value} {w w' : World} (h : RRat x n v w) (hk : Keep w w') : RRat x n v w' := by
 obtain ⟨p, q, k, A, l, c, k', A', l', c', rfl, h1, h2, h3⟩ := h
 exact ⟨p, q, k, A, l, c, k', A', l', c', rfl, h1.kept hk, h2.kept hk, h3⟩
theorem PInt.open {z : Int} {n : Nat} {v : Value} {w : World} (h : PInt z n v w) : ∃ (k : Bool) (A : Option Addr) (l c : Nat), v = .agg #[.bool k, .slice A l c] := by
 obtain ⟨k, A, c, L, h1, -⟩ := h
 exact ⟨k, A, _, c, h1⟩
theorem PRef.open {z : Int} {n : Nat} {v : Value} {w : World} (h : PRef z n v w) : ∃ (k : Bool) (A : Option Addr) (l c : Nat), v = .agg #[.bool k, .slice A l c] := by
 obtain ⟨k, A, c, L, h1, -⟩ := h
 exact ⟨k, A, _, c, h1⟩
theorem PRat.mk {x : Rat} {p q : Int} {n : Nat} {k : Bool} {A : Option Addr} {l c : Nat} {k' : Bool} {A' : Option Addr} {l' c' : Nat} {w : World} (h1 : PInt p n (.agg #[.bool k, .slice A l c]) w) (h2 : PInt q n (.agg #[.bool k', .slice A' l' c']) w) (hp : p = x.num) (hq : q = x.den) :
  PRat x n (.agg #[.bool k, .slice A l c, .bool k', .slice A' l' c']) w := ⟨p, q, k, A, l, c, k', A', l', c', rfl, h1, h2, .inl ⟨hp, hq⟩⟩
theorem PRat.parts {x : Rat} {n : Nat} {k : Bool} {A : Option Addr} {l c : Nat} {k' : Bool} {A' : Option Addr} {l' c' : Nat} {w : World} (h : PRat x n (.agg #[.bool k, .slice A l c, .bool k', .slice A' l' c']) w) :
  ∃ p q, PInt p n (.agg #[.bool k, .slice A l c]) w ∧ PInt q n (.agg #[.bool k', .slice A' l' c']) w ∧ ((p = x.num ∧ q = x.den) ∨ (p = 0 ∧ q = 0 ∧ x = 0)) := by
 obtain ⟨p, q, k2, A2, l2, c2, k3, A3, l3, c3, e, h1, h2, h3⟩ := h
 simp only [Value.agg.injEq, Array.mk.injEq, List.cons.injEq, Value.bool.injEq, Value.slice.injEq, and_true] at e
 obtain ⟨rfl, ⟨rfl, rfl, rfl⟩, rfl, rfl, rfl, rfl⟩ := e
 exact ⟨p, q, h1, h2, h3⟩
theorem PRat.open {x : Rat} {n : Nat} {v : Value} {w : World} (h : PRat x n v w) : ∃ (k : Bool) (A : Option Addr) (l c : Nat) (k' : Bool) (A' : Option Addr) (l' c' : Nat), v = .agg #[.bool k, .slice A l c, .bool k', .slice A' l' c'] := by
 obtain ⟨p, q, k2, A2, l2, c2, k3, A3, l3, c3, e, -⟩ := h
 exact ⟨_, _, _, _, _, _, _, _, e⟩
theorem RRat.mk {x : Rat} {p q : Int} {n : Nat} {k : Bool} {A : Option Addr} {l c : Nat} {k' : Bool} {A' : Option Addr} {l' c' : Nat} {w : World} (h1 : PRef p n (.agg #[.bool k, .slice A l c]) w) (h2 : PRef q n (.agg #[.bool k', .slice A' l' c']) w) (hp : p = x.num) (hq : q = x.den) :
  RRat x n (.agg #[.bool k, .slice A l c, .bool k', .slice A' l' c']) w := ⟨p, q, k, A, l, c, k', A', l', c', rfl, h1, h2, .inl ⟨hp, hq⟩⟩
theorem RRat.parts {x : Rat} {n : Nat} {k : Bool} {A : Option Addr} {l c : Nat} {k' : Bool} {A' : Option Addr} {l' c' : Nat} {w : World} (h : RRat x n (.agg #[.bool k, .slice A l c, .bool k', .slice A' l' c']) w) :
  ∃ p q, PRef p n (.agg #[.bool k, .slice A l c]) w ∧ PRef q n (.agg #[.bool k', .slice A' l' c']) w ∧ ((p = x.num ∧ q = x.den) ∨ (p = 0 ∧ q = 0 ∧ x = 0)) := by
 obtain ⟨p, q, k2, A2, l2, c2, k3, A3, l3, c3, e, h1, h2, h3⟩ := h
 simp only [Value.agg.injEq, Array.mk.injEq, List.cons.injEq, Value.bool.injEq, Value.slice.injEq, and_true] at e
 obtain ⟨rfl, ⟨rfl, rfl, rfl⟩, rfl, rfl, rfl, rfl⟩ := e
 exact ⟨p, q, h1, h2, h3⟩
theorem RRat.open {x : Rat} {n : Nat} {v : Value} {w : World} (h : RRat x n v w) : ∃ (k : Bool) (A : Option Addr) (l c : Nat) (k' : Bool) (A' : Option Addr) (l' c' : Nat), v = .agg #[.bool k, .slice A l c, .bool k', .slice A' l' c'] := by
 obtain ⟨p, q, k2, A2, l2, c2, k3, A3, l3, c3, e, -⟩ := h
 exact ⟨_, _, _, _, _, _, _, _, e⟩
def AS.Fact.int (z : Int) (n : Nat) : AS.Fact := ⟨PInt z n, fun _ _ _ hk h => h.kept hk⟩
def AS.Fact.ref (z : Int) (n : Nat) : AS.Fact := ⟨PRef z n, fun _ _ _ hk h => h.kept hk⟩
def AS.Fact.rat (x : Rat) (n : Nat) : AS.Fact := ⟨PRat x n, fun _ _ _ hk h => h.kept hk⟩
def JNo (W : World) : Nat → List Value → World → Prop := fun _ _ w => Below W.heap.size W w
theorem JNo.st (W : World) : ∀ k l w w', Below w.heap.size w w' → JNo W k l w → JNo W k l w' := fun _ _ _ _ hb h => below_then h hb h.size
def JRes (w0 W : World) (t : TypeId) (g : Nat) : Nat → List Value → World → Prop
 | 0, _, w => Below W.heap.size W w
 | _ + 1, l, w => (Below w0.heap.size w0 w ∧ w0.heap.size ≤ w.heap.size) ∧ ∃ vs : List Value, l = [.agg vs.toArray] ∧ Bx t w g vs
theorem JRes.st (w0 W : World) (t : TypeId) (g : Nat) : ∀ k l w w', Below w.heap.size w w' → JRes w0 W t g k l w → JRes w0 W t g k l w'
 | 0, _, _, _, hb, h => below_then h hb h.size
 | _ + 1, _, _, _, hb, ⟨⟨h1, h2⟩, vs, h3, h4⟩ => ⟨⟨below_then h1 hb h2, Nat.le_trans h2 hb.size⟩, vs, h3, h4.up hb⟩
def JRes2 (w0 W : World) (t t' : TypeId) (g g' : Nat) (ob : List (TypeId × Nat × List Value)) : Nat → List Value → World → Prop
 | 0, _, w => Below W.heap.size W w
 | 1, l, w => (Below w0.heap.size w0 w ∧ w0.heap.size ≤ w.heap.size) ∧ (∀ b ∈ ob, Bx b.1 w b.2.1 b.2.2) ∧ (∃ vs : List Value, l = [.agg vs.toArray] ∧ Bx t w g vs) ∧ ∃ x y, Bx t' w g' [x, y]
 | _ + 2, l, w => (Below w0.heap.size w0 w ∧ w0.heap.size ≤ w.heap.size) ∧ (∀ b ∈ ob, Bx b.1 w b.2.1 b.2.2) ∧ ∃ vs vs' : List Value, l = [.agg vs.toArray, .agg vs'.toArray] ∧ Bx t w g vs ∧ Bx t' w g' vs'
theorem JRes2.st (w0 W : World) (t t' : TypeId) (g g' : Nat) (ob : List (TypeId × Nat × List Value)) : ∀ k l w w', Below w.heap.size w w' → JRes2 w0 W t t' g g' ob k l w → JRes2 w0 W t t' g g' ob k l w'
 | 0, _, _, _, hb, h => below_then h hb h.size
 | 1, _, _, _, hb, ⟨⟨h1, h2⟩, h0, ⟨vs, h3, h4⟩, x, y, h5⟩ => ⟨⟨below_then h1 hb h2, Nat.le_trans h2 hb.size⟩, fun b hb' => (h0 b hb').up hb, ⟨vs, h3, h4.up hb⟩, x, y, h5.up hb⟩
 | _ + 2, _, _, _, hb, ⟨⟨h1, h2⟩, h0, vs, vs', h3, h4, h5⟩ => ⟨⟨below_then h1 hb h2, Nat.le_trans h2 hb.size⟩, fun b hb' => (h0 b hb').up hb, vs, vs', h3, h4.up hb, h5.up hb⟩
def IsBox (t : TypeId) (B : Nat) (v : Value) (w : World) : Prop := ∃ g x y, v = .pointer (some ⟨g, 0, none⟩) ∧ B ≤ g ∧ Bx t w g [x, y]
def AS.Fact.isBox (t : TypeId) (B : Nat) : AS.Fact := ⟨IsBox t B, fun _ _ _ hk ⟨g, x, y, e, hB, h⟩ => by
 obtain ⟨vs', hl, h2⟩ := hk.box t g [x, y] (by simp) h
 match vs', hl, h2 with
 | [x', y'], _, h2 => exact ⟨g, x', y', e, hB, h2⟩⟩
theorem IsBox.new {t : TypeId} {B : Nat} (w : World) (hB : B ≤ w.heap.size) : IsBox t B (.pointer (some ⟨w.heap.size, 0, none⟩)) (w.alloc (.cells #[.bool false, .slice none 0 0] t)) :=
 ⟨w.heap.size, _, _, rfl, hB, Bx.new t w [.bool false, .slice none 0 0] (leaf2 (Leaf.bool _) (Leaf.slice _ _ _))⟩
def JFst (W : World) (t : TypeId) : Nat → List Value → World → Prop
 | 0, _, w => Below W.heap.size W w
 | _ + 1, l, w => Below W.heap.size W w ∧ ∃ (g : Nat) (vs : List Value), l = [.agg vs.toArray, .pointer (some ⟨g, 0, none⟩)] ∧ W.heap.size ≤ g ∧ Bx t w g vs
theorem JFst.st (W : World) (t : TypeId) : ∀ k l w w', Below w.heap.size w w' → JFst W t k l w → JFst W t k l w'
 | 0, _, _, _, hb, h => below_then h hb h.size
 | _ + 1, _, _, _, hb, ⟨h1, g, vs, h3, h4, h5⟩ => ⟨below_then h1 hb h1.size, g, vs, h3, h4, h5.up hb⟩
def QuoP (q r : Int) (n : Nat) (v : Value) (w : World) : Prop := ∃ a b, v = .tuple #[a, b, .int .i64 0] ∧ PInt q n a w ∧ PInt r n b w
def AS.Fact.quo (q r : Int) (n : Nat) : AS.Fact := ⟨QuoP q r n, fun _ _ _ hk ⟨a, b, e, h1, h2⟩ => ⟨a, b, e, h1.kept hk, h2.kept hk⟩⟩
def smSt (o d : Nat) (D M : List Nat) : Nat → List Nat × Nat
 | 0 => (M, 0)
 | k + 1 => if nth (smSt o d D M k).1 (o + k) < ((smSt o d D M k).2 + d * nth D k) % 1000000000
   then ((smSt o d D M k).1.set (o + k) (nth (smSt o d D M k).1 (o + k) + 1000000000 - ((smSt o d D M k).2 + d * nth D k) % 1000000000), ((smSt o d D M k).2 + d * nth D k) / 1000000000 + 1)
   else ((smSt o d D M k).1.set (o + k) (nth (smSt o d D M k).1 (o + k) - ((smSt o d D M k).2 + d * nth D k) % 1000000000), ((smSt o d D M k).2 + d * nth D k) / 1000000000)
theorem smSt_succ (o d : Nat) (D M : List Nat) (k : Nat) : smSt o d D M (k + 1) = if nth (smSt o d D M k).1 (o + k) < ((smSt o d D M k).2 + d * nth D k) % 1000000000
      then ((smSt o d D M k).1.set (o + k) (nth (smSt o d D M k).1 (o + k) + 1000000000 - ((smSt o d D M k).2 + d * nth D k) % 1000000000), ((smSt o d D M k).2 + d * nth D k) / 1000000000 + 1)
      else ((smSt o d D M k).1.set (o + k) (nth (smSt o d D M k).1 (o + k) - ((smSt o d D M k).2 + d * nth D k) % 1000000000), ((smSt o d D M k).2 + d * nth D k) / 1000000000) := rfl
theorem smSt_ok {o d : Nat} {D M : List Nat} (hD : Lim D) (hM : Lim M) (k : Nat) :
  Lim (smSt o d D M k).1 ∧ (smSt o d D M k).2 ≤ d + 1 ∧ (smSt o d D M k).1.length = M.length := by
 induction k with
 | zero => exact ⟨hM, by simp [smSt], rfl⟩
 | succ k ih =>
  obtain ⟨h1, h2, h3⟩ := ih
  have a := h1.nth (o + k)
  have b : d * nth D k ≤ d * 999999999 := Nat.mul_le_mul_left _ (by have := hD.nth k; omega)
  rw [smSt_succ]
  split
  ·exact ⟨h1.set _ (by omega), by show _ / _ + 1 ≤ _; omega, by simp [h3]⟩
  ·exact ⟨h1.set _ (by omega), by show _ / _ ≤ _; omega, by simp [h3]⟩
theorem smSt_val {o d : Nat} {D M : List Nat} (hD : Lim D) (hM : Lim M) (k : Nat) (hk : o + k ≤ M.length) :
  valB 1000000000 (smSt o d D M k).1 + 1000000000 ^ o * (d * valB 1000000000 (D.take k)) = valB 1000000000 M + 1000000000 ^ (o + k) * (smSt o d D M k).2 := by
 induction k with
 | zero => simp [smSt, valB]
 | succ k ih =>
  replace ih := ih (by omega)
  obtain ⟨h1, h2, hl⟩ := smSt_ok (o := o) (d := d) hD hM k
  have a := h1.nth (o + k)
  rw [smSt_succ]
  have hbt : valB 1000000000 (D.take (k + 1)) = valB 1000000000 (D.take k) + 1000000000 ^ k * nth D k := by
   rcases Nat.lt_or_ge k D.length with h | h
   ·exact valB_take_succ _ _ _ h
   ·rw [valB_take_over _ _ _ h, valB_take_over _ _ _ (by omega), nth_ge h]; simp
  rw [hbt]
  have hs := fun v => valB_set 1000000000 (smSt o d D M k).1 (o + k) v (by omega)
  generalize smSt o d D M k = q at *
  obtain ⟨Q, y⟩ := q
  dsimp only at *
  have ht := Nat.div_add_mod (y + d * nth D k) 1000000000
  have ht2 : (y + d * nth D k) % 1000000000 < 1000000000 := Nat.mod_lt _ (by omega)
  generalize (y + d * nth D k) % 1000000000 = t at *
  generalize (y + d * nth D k) / 1000000000 = c at *
  rw [← Nat.add_assoc, Nat.pow_succ]
  have e : (1000000000 : Nat) ^ (o + k) = 1000000000 ^ o * 1000000000 ^ k := Nat.pow_add _ _ _
  rw [e] at hs ih ⊢
  generalize (1000000000 : Nat) ^ o = po at *
  generalize (1000000000 : Nat) ^ k = pj at *
  generalize valB 1000000000 M = VM at *
  generalize valB 1000000000 (D.take k) = VB at *
  split
  ·rename_i hlt
   have hs' := hs (nth Q (o + k) + 1000000000 - t)
   obtain ⟨v, hv⟩ : ∃ v, nth Q (o + k) + 1000000000 - t = v := ⟨_, rfl⟩
   have hv2 : v + t = nth Q (o + k) + 1000000000 := by omega
   rw [hv] at hs' ⊢
   dsimp only
   generalize valB 1000000000 (Q.set (o + k) v) = V at *
   generalize valB 1000000000 Q = VQ at *
   generalize nth D k = bj at *
   generalize nth Q (o + k) = qj at *
   have h3 : po * pj * (v + t) = po * pj * (qj + 1000000000) := by rw [hv2]
   have h4 : po * pj * (1000000000 * c + t) = po * pj * (y + d * bj) := by rw [ht]
   clear hs hv hv2 hbt hl a ht ht2 h1 h2 hD hM hk hlt e
   grind
  ·rename_i hge
   have hs' := hs (nth Q (o + k) - t)
   obtain ⟨v, hv⟩ : ∃ v, nth Q (o + k) - t = v := ⟨_, rfl⟩
   have hv2 : v + t = nth Q (o + k) := by omega
   rw [hv] at hs' ⊢
   dsimp only
   generalize valB 1000000000 (Q.set (o + k) v) = V at *
   generalize valB 1000000000 Q = VQ at *
   generalize nth D k = bj at *
   generalize nth Q (o + k) = qj at *
   have h3 : po * pj * (v + t) = po * pj * qj := by rw [hv2]
   have h4 : po * pj * (1000000000 * c + t) = po * pj * (y + d * bj) := by rw [ht]
   clear hs hv hv2 hbt hl a ht ht2 h1 h2 hD hM hk hge e
   grind
theorem smSt_high {o d : Nat} {D M : List Nat} (k j : Nat) (hj : o + k ≤ j) : nth (smSt o d D M k).1 j = nth M j := by
 induction k with
 | zero => rfl
 | succ k ih =>
  rw [smSt_succ]
  split
  ·dsimp only; rw [nth_set_ne (by omega)]; exact ih (by omega)
  ·dsimp only; rw [nth_set_ne (by omega)]; exact ih (by omega)
theorem addSt_high {o : Nat} {B M : List Nat} (k j : Nat) (hj : o + k ≤ j) : nth (addSt o B M k).1 j = nth M j := by
 induction k with
 | zero => rfl
 | succ k ih => rw [addSt_succ]; dsimp only; rw [nth_set_ne (by omega)]; exact ih (by omega)
theorem valB_split (b : Nat) (L : List Nat) (m : Nat) : valB b L = valB b (L.take m) + b ^ (min m L.length) * valB b (L.drop m) := by
 have h := valB_append b (L.take m) (L.drop m)
 rw [List.take_append_drop, List.length_take] at h
 exact h
theorem valB_take_le (b : Nat) (L : List Nat) (m : Nat) : valB b (L.take m) ≤ valB b L := by
 have := valB_split b L m; omega
theorem valB_allzero (b : Nat) : ∀ L : List Nat, (∀ k, nth L k = 0) → valB b L = 0
 | [], _ => rfl
 | d :: L, h => by
  have h0 : d = 0 := by simpa [nth] using h 0
  have h1 := valB_allzero b L (fun k => by simpa [nth] using h (k + 1))
  simp [valB, h0, h1]
theorem nth_drop (L : List Nat) (m k : Nat) : nth (L.drop m) k = nth L (m + k) := by simp [nth, List.getElem?_drop]
theorem val_high {L : List Nat} (hL : Lim L) (m : Nat) (h : ∀ j, m ≤ j → nth L j = 0) : val9 L < 1000000000 ^ m := by
 have h1 := valB_split 1000000000 L m
 rw [valB_allzero _ (L.drop m) (fun k => by rw [nth_drop]; exact h _ (by omega)), Nat.mul_zero, Nat.add_zero] at h1
 have h2 := valB_lt (hL.take m)
 have h3 : (1000000000 : Nat) ^ (L.take m).length ≤ 1000000000 ^ m := Nat.pow_le_pow_right (by omega) (by rw [List.length_take]; omega)
 unfold val9
 omega
theorem val_small {L : List Nat} {m : Nat} (h : val9 L < 1000000000 ^ m) (j : Nat) (hj : m ≤ j) : nth L j = 0 := by
 rcases Nat.lt_or_ge j L.length with hlt | hge
 ·have h1 := valB_take_succ 1000000000 L j hlt
  have h2 := valB_take_le 1000000000 L (j + 1)
  have h3 : (1000000000 : Nat) ^ m ≤ 1000000000 ^ j := Nat.pow_le_pow_right (by omega) hj
  rcases Nat.eq_zero_or_pos (nth L j) with h0 | h0
  ·exact h0
  ·have h4 : 1000000000 ^ j * 1 ≤ 1000000000 ^ j * nth L j := Nat.mul_le_mul_left _ h0
   unfold val9 at h
   omega
 ·exact nth_ge hge
theorem val_div {L : List Nat} (hL : Lim L) (m : Nat) (hm : m ≤ L.length) : val9 L / 1000000000 ^ m = val9 (L.drop m) := by
 have h1 := valB_split 1000000000 L m
 have h2 := valB_lt (hL.take m)
 rw [List.length_take, Nat.min_eq_left hm] at h2
 rw [Nat.min_eq_left hm] at h1
 unfold val9
 rw [h1, Nat.add_mul_div_left _ _ (Nat.pow_pos (by omega)), Nat.div_eq_of_lt h2, Nat.zero_add]
theorem knuth {P D S B : Nat} (hS : 0 < S) (hP : P < B * D) (h2 : B ≤ D / S) (_hB : 0 < B) : P / D ≤ P / S / (D / S) ∧ P / S / (D / S) ≤ P / D + 1 := by
 have hD : 0 < D := by
  rcases Nat.eq_zero_or_pos D with h | h
  ·subst h; simp at h2; omega
  ·exact h
 have hq : P / D < B := by rw [Nat.div_lt_iff_lt_mul hD]; exact hP
 have hqD : P / D * D ≤ P := Nat.div_mul_le_self P D
 have hqD2 : P < (P / D + 1) * D := by have := Nat.lt_mul_div_succ P hD; rw [Nat.mul_comm]; exact this
 have hDS : D / S * S ≤ D := Nat.div_mul_le_self D S
 have hDS2 : D < (D / S + 1) * S := by have := Nat.lt_mul_div_succ D hS; rw [Nat.mul_comm]; exact this
 have hPS : P / S * S ≤ P := Nat.div_mul_le_self P S
 generalize P / D = q at *
 generalize D / S = e at *
 constructor
 ·rw [Nat.le_div_iff_mul_le (by omega), Nat.le_div_iff_mul_le hS]
  have h1 : q * (e * S) ≤ q * D := Nat.mul_le_mul_left _ hDS
  rw [Nat.mul_assoc]
  omega
 ·have : P / S / e < q + 2 := by
   rw [Nat.div_lt_iff_lt_mul (by omega)]
   rcases Nat.lt_or_ge (P / S) ((q + 2) * e) with h | h
   ·exact h
   ·exfalso
    have h3 : (q + 2) * e * S ≤ P / S * S := Nat.mul_le_mul_right _ h
    have h4 : (q + 1) * D ≤ (q + 1) * ((e + 1) * S) := Nat.mul_le_mul_left _ (by omega)
    have h5 : (q + 2) * e * S < (q + 1) * (e + 1) * S := by rw [Nat.mul_assoc (q + 1)]; omega
    have h6 : (q + 2) * e < (q + 1) * (e + 1) := Nat.lt_of_mul_lt_mul_right h5
    have h7 : (q + 2) * e = (q + 1) * e + e := by rw [Nat.add_mul, Nat.add_mul]; omega
    have h8 : (q + 1) * (e + 1) = (q + 1) * e + (q + 1) := by rw [Nat.mul_add]; omega
    omega
  omega
def top3 (R : List Nat) (j : Nat) : Nat := (nth R (j + 2) * 1000000000 + nth R (j + 1)) * 1000000000 + nth R j
def top2 (D : List Nat) (n : Nat) : Nat := nth D (n - 1) * 1000000000 + nth D (n - 2)
theorem valB_drop9 (L : List Nat) (k : Nat) : val9 (L.drop k) = nth L k + 1000000000 * val9 (L.drop (k + 1)) := by
 rcases Nat.lt_or_ge k L.length with h | h
 ·exact valB_drop _ _ _ h
 ·rw [List.drop_eq_nil_of_le h, List.drop_eq_nil_of_le (by omega), nth_ge h]; rfl
theorem top3_val {R : List Nat} (hR : Lim R) (j : Nat) (hj : j ≤ R.length) (hz : ∀ k, j + 3 ≤ k → nth R k = 0) : val9 R / 1000000000 ^ j = top3 R j := by
 have h0 : val9 (R.drop (j + 3)) = 0 := valB_allzero _ _ (fun k => by rw [nth_drop]; exact hz _ (by omega))
 have h1 := valB_drop9 R j
 have h2 := valB_drop9 R (j + 1)
 have h3 := valB_drop9 R (j + 2)
 rw [val_div hR j hj]
 unfold top3
 rw [show j + 1 + 1 = j + 2 from rfl] at h2
 rw [show j + 2 + 1 = j + 3 from rfl] at h3
 omega
theorem top2_val {D : List Nat} (hD : Lim D) (n : Nat) (hn : D.length = n) (h2 : 2 ≤ n) : val9 D / 1000000000 ^ (n - 2) = top2 D n := by
 have h0 : val9 (D.drop n) = 0 := by rw [List.drop_eq_nil_of_le (by omega)]; rfl
 have h1 := valB_drop9 D (n - 2)
 have h3 := valB_drop9 D (n - 2 + 1)
 rw [val_div hD (n - 2) (by omega)]
 unfold top2
 rw [show n - 2 + 1 + 1 = n by omega] at h3
 rw [show n - 2 + 1 = n - 1 by omega] at h1 h3
 omega
def digQ (i : Nat) (D R : List Nat) : Nat := val9 R / 1000000000 ^ i / val9 D
structure DigOk (i n d : Nat) (D R : List Nat) : Prop where
 yes : (smSt i d D R (n + 1)).2 = 0 → d = digQ i D R ∧ val9 (smSt i d D R (n + 1)).1 + 1000000000 ^ i * (digQ i D R * val9 D) = val9 R
 no : (smSt i d D R (n + 1)).2 ≠ 0 → d = digQ i D R + 1 ∧ val9 (addSt i D (smSt i d D R (n + 1)).1 (n + 1)).1 + 1000000000 ^ i * (digQ i D R * val9 D) = val9 R
theorem dig_ok {i n d : Nat} {D R : List Nat} (hD : Lim D) (hn : D.length = n) (h2 : 2 ≤ n) (hR : Lim R) (hlen : i + n + 1 ≤ R.length) (htop : 0 < nth D (n - 1))
  (hV : val9 R < val9 D * 1000000000 ^ (i + 1)) (hd : d = top3 R (i + n - 2) / top2 D n) : DigOk i n d D R := by
 have hDn : val9 D < 1000000000 ^ n := by have := valB_lt hD; rw [hn] at this; exact this
 have hE : (1000000000 : Nat) ^ (i + n + 1) = 1000000000 ^ n * 1000000000 ^ (i + 1) := by rw [← Nat.pow_add]; congr 1; omega
 have hVE : val9 R < 1000000000 ^ (i + n + 1) := by
  rw [hE]; exact Nat.lt_of_lt_of_le hV (Nat.mul_le_mul_right _ (Nat.le_of_lt hDn))
 have hz := fun j hj => val_small hVE j hj
 have e3 := top3_val hR (i + n - 2) (by omega) (fun k hk => hz k (by omega))
 have e2 := top2_val hD n hn h2
 have hT : 0 < (1000000000 : Nat) ^ i := Nat.pow_pos (by omega)
 have hS : 0 < (1000000000 : Nat) ^ (n - 2) := Nat.pow_pos (by omega)
 have hB2 : 1000000000 ≤ top2 D n := by unfold top2; omega
 have hDpos : 0 < val9 D := by
  rcases Nat.eq_zero_or_pos (val9 D) with h | h
  ·rw [h] at e2; simp at e2; omega
  ·exact h
 have hP : val9 R / 1000000000 ^ i < 1000000000 * val9 D := by
  rw [Nat.div_lt_iff_lt_mul hT]
  rw [Nat.pow_succ] at hV
  have : 1000000000 * val9 D * 1000000000 ^ i = val9 D * (1000000000 ^ i * 1000000000) := by
   rw [Nat.mul_comm 1000000000 (val9 D), Nat.mul_assoc, Nat.mul_comm 1000000000]
  omega
 have e4 : val9 R / 1000000000 ^ (i + n - 2) = val9 R / 1000000000 ^ i / 1000000000 ^ (n - 2) := by
  rw [Nat.div_div_eq_div_mul, ← Nat.pow_add]; congr 2; omega
 have hk := knuth hS hP (by rw [e2]; exact hB2) (by omega)
 rw [← e4, e3, e2, ← hd] at hk
 have hlow : 1000000000 ^ i * (val9 R / 1000000000 ^ i) ≤ val9 R := Nat.mul_div_le _ _
 have hup : val9 R < 1000000000 ^ i * (val9 R / 1000000000 ^ i + 1) := Nat.lt_mul_div_succ _ hT
 have hqD : val9 R / 1000000000 ^ i / val9 D * val9 D ≤ val9 R / 1000000000 ^ i := Nat.div_mul_le_self _ _
 have hqD2 : val9 R / 1000000000 ^ i < (val9 R / 1000000000 ^ i / val9 D + 1) * val9 D := by have := Nat.lt_mul_div_succ (val9 R / 1000000000 ^ i) hDpos; rw [Nat.mul_comm]; exact this
 have hs := smSt_val (o := i) (d := d) hD hR (n + 1) (by omega)
 rw [valB_take_over _ _ _ (by omega)] at hs
 have hsok := smSt_ok (o := i) (d := d) hD hR (n + 1)
 have hsz : val9 (smSt i d D R (n + 1)).1 < 1000000000 ^ (i + n + 1) := val_high hsok.1 _ (fun j hj => by rw [smSt_high (n + 1) j (by omega)]; exact hz j hj)
 have ha := addSt_val (o := i) hD hsok.1 (n + 1) (by rw [hsok.2.2]; omega)
 rw [valB_take_over _ _ _ (by omega)] at ha
 have haok := addSt_ok (o := i) hD hsok.1 (n + 1)
 have haz : val9 (addSt i D (smSt i d D R (n + 1)).1 (n + 1)).1 < 1000000000 ^ (i + n + 1) := val_high haok.1 _ (fun j hj => by rw [addSt_high (n + 1) j (by omega), smSt_high (n + 1) j (by omega)]; exact hz j hj)
 have hTD : 1000000000 ^ i * val9 D < 1000000000 ^ (i + n + 1) := by
  have h1 : 1000000000 ^ i * val9 D < 1000000000 ^ i * 1000000000 ^ n := Nat.mul_lt_mul_of_pos_left hDn hT
  rw [← Nat.pow_add] at h1
  have h2 : (1000000000 : Nat) ^ (i + n) ≤ 1000000000 ^ (i + n + 1) := Nat.pow_le_pow_right (by omega) (by omega)
  omega
 rw [← Nat.add_assoc] at hs ha
 have hac := haok.2.1
 suffices key : ((smSt i d D R (n + 1)).2 = 0 → d = val9 R / 1000000000 ^ i / val9 D ∧ val9 (smSt i d D R (n + 1)).1 + 1000000000 ^ i * (val9 R / 1000000000 ^ i / val9 D * val9 D) = val9 R) ∧
   ((smSt i d D R (n + 1)).2 ≠ 0 → d = val9 R / 1000000000 ^ i / val9 D + 1 ∧ val9 (addSt i D (smSt i d D R (n + 1)).1 (n + 1)).1 + 1000000000 ^ i * (val9 R / 1000000000 ^ i / val9 D * val9 D) = val9 R) from ⟨key.1, key.2⟩
 unfold val9 at *
 clear e2 e3 e4 hz hsok haok hE hVE hP hB2 htop hd
 generalize (smSt i d D R (n + 1)).2 = c at *
 generalize (addSt i D (smSt i d D R (n + 1)).1 (n + 1)).2 = c2 at *
 generalize valB 1000000000 (addSt i D (smSt i d D R (n + 1)).1 (n + 1)).1 = W2 at *
 generalize valB 1000000000 (smSt i d D R (n + 1)).1 = W at *
 generalize (1000000000 : Nat) ^ (i + n + 1) = E at *
 generalize valB 1000000000 R / 1000000000 ^ i / valB 1000000000 D = q at *
 generalize valB 1000000000 R / 1000000000 ^ i = P at *
 generalize (1000000000 : Nat) ^ i = T at *
 generalize valB 1000000000 R = V at *
 generalize valB 1000000000 D = X at *
 have hTP : T * (q * X) ≤ T * P := Nat.mul_le_mul_left _ hqD
 have hTP2 : T * (P + 1) ≤ T * ((q + 1) * X) := Nat.mul_le_mul_left _ hqD2
 have e5 : T * ((q + 1) * X) = T * (q * X) + T * X := by rw [Nat.add_mul, Nat.one_mul, Nat.mul_add]
 have hdq : d = q ∨ d = q + 1 := by omega
 refine ⟨fun hc => ?_, fun hc => ?_⟩
 ·subst hc
  rw [Nat.mul_zero, Nat.add_zero] at hs
  rcases hdq with h | h
  ·subst h; exact ⟨rfl, hs⟩
  ·subst h
   rw [e5] at hs
   omega
 ·rcases hdq with h | h
  ·subst h
   exfalso
   have : E * 1 ≤ E * c := Nat.mul_le_mul_left _ (by omega)
   omega
  ·refine ⟨h, ?_⟩
   subst h
   rw [e5] at hs
   have hc1 : c = 1 := by
    rcases Nat.lt_or_ge c 2 with h | h
    ·omega
    ·exfalso
     have : E * 2 ≤ E * c := Nat.mul_le_mul_left _ h
     omega
   subst hc1
   have hc2 : c2 = 0 ∨ c2 = 1 := by omega
   rcases hc2 with h | h
   ·subst h; omega
   ·subst h; omega
theorem dig_less {i V X N : Nat} (hX : 0 < X) (hV : V < X * 1000000000 ^ (i + 1)) (hN : N + 1000000000 ^ i * (V / 1000000000 ^ i / X * X) = V) : N < X * 1000000000 ^ i ∧ V / 1000000000 ^ i / X < 1000000000 := by
 have hT : 0 < (1000000000 : Nat) ^ i := Nat.pow_pos (by omega)
 have hup : V < 1000000000 ^ i * (V / 1000000000 ^ i + 1) := Nat.lt_mul_div_succ _ hT
 have hqD2 : V / 1000000000 ^ i < (V / 1000000000 ^ i / X + 1) * X := by have := Nat.lt_mul_div_succ (V / 1000000000 ^ i) hX; rw [Nat.mul_comm]; exact this
 constructor
 ·have h1 : 1000000000 ^ i * (V / 1000000000 ^ i + 1) ≤ 1000000000 ^ i * ((V / 1000000000 ^ i / X + 1) * X) := Nat.mul_le_mul_left _ hqD2
  generalize V / 1000000000 ^ i / X = q at *
  have e5 : 1000000000 ^ i * ((q + 1) * X) = 1000000000 ^ i * (q * X) + X * 1000000000 ^ i := by rw [Nat.add_mul, Nat.one_mul, Nat.mul_add, Nat.mul_comm X]
  omega
 ·rw [Nat.div_lt_iff_lt_mul hX, Nat.div_lt_iff_lt_mul hT]
  rw [Nat.pow_succ] at hV
  have : 1000000000 * X * 1000000000 ^ i = X * (1000000000 ^ i * 1000000000) := by rw [Nat.mul_comm 1000000000 X, Nat.mul_assoc, Nat.mul_comm 1000000000]
  omega
structure LSt (x0 y0 : Nat) (e : Bool) (x y P Q R T u v m n : Nat) : Prop where
 tu : T * u + Q * v = x0 + 1
 ru : R * u + P * v = y0
 tm : T * m + Q * n = x0
 rm : R * m + P * n = y0 + 1
 e1 : e = true → x + P = u ∧ y = v + R ∧ x = m + Q ∧ y + T = n ∧ P * T = Q * R + 1
 e2 : e = false → x = u + P ∧ y + R = v ∧ x + Q = m ∧ y = n + T ∧ P * T + 1 = Q * R
 t1 : 1 ≤ T
 id : (e = true ∧ P = 1 ∧ Q = 0 ∧ R = 0 ∧ T = 1 ∧ x = x0 ∧ y = y0) ∨ (1 ≤ Q ∧ 1 ≤ R ∧ v < u ∧ n < m)
 p9 : P ≤ 1000000000
 q9 : Q ≤ 1000000000
 r9 : R ≤ 1000000000
 t9 : T ≤ 1000000000
theorem st_start {x0 y0 : Nat} : LSt x0 y0 true x0 y0 1 0 0 1 (x0 + 1) y0 x0 (y0 + 1) :=
 ⟨by omega, by omega, by omega, by omega, fun _ => by omega, fun h => by simp at h, by omega, Or.inl ⟨rfl, rfl, rfl, rfl, rfl, rfl, rfl⟩, by omega, by omega, by omega, by omega⟩
theorem sq_small {a b : Nat} (h : a * b ≤ 1000000000000000000) (h1 : a < b) : a ≤ 1000000000 := by
 rcases Nat.lt_or_ge 1000000000 a with h2 | h2
 ·have := Nat.mul_le_mul (show 1000000001 ≤ a by omega) (show 1000000001 ≤ b by omega)
  omega
 ·exact h2
theorem st_step {x0 y0 x y P Q R T u v m n q : Nat} {e : Bool} (h : LSt x0 y0 e x y P Q R T u v m n) (hx : x0 < 1000000000000000000) (hy : y0 ≤ x0) (hv : 0 < v) (hn : 0 < n) (hq : u / v = q) (hq2 : m / n = q) :
    q * y ≤ x ∧ 1 ≤ q ∧ 1 ≤ y ∧ LSt x0 y0 (!e) y (x - q * y) R T (P + q * R) (Q + q * T) v (u - q * v) n (m - q * n) := by
  have d1 : q * v ≤ u := by rw [← hq]; exact Nat.div_mul_le_self _ _
  have d2 : q * n ≤ m := by rw [← hq2]; exact Nat.div_mul_le_self _ _
  have d3 : u - q * v < v := by have := Nat.mod_lt u hv; rw [Nat.mod_def, hq, Nat.mul_comm] at this; exact this
  have d4 : m - q * n < n := by have := Nat.mod_lt m hn; rw [Nat.mod_def, hq2, Nat.mul_comm] at this; exact this
  have hq1 : 1 ≤ q := by
    rw [← hq]
    have : v ≤ u := by
      rcases h.id with ⟨i1, i2, i3, i4, i5, i6, i7⟩ | ⟨_, _, h3, _⟩
      · have := h.e1 i1; omega
      · omega
    exact Nat.div_pos this hv
  obtain ⟨v2, hv2⟩ : ∃ v2, u - q * v = v2 := ⟨_, rfl⟩
  obtain ⟨n2, hn2⟩ : ∃ n2, m - q * n = n2 := ⟨_, rfl⟩
  have f1 : u = v2 + q * v := by omega
  have f2 : m = n2 + q * n := by omega
  rw [hv2, hn2]
  rw [hv2] at d3
  rw [hn2] at d4
  have a1 : (Q + q * T) * v + T * v2 = x0 + 1 := by rw [← h.tu, f1]; grind
  have a2 : (P + q * R) * v + R * v2 = y0 := by rw [← h.ru, f1]; grind
  have a3 : (Q + q * T) * n + T * n2 = x0 := by rw [← h.tm, f2]; grind
  have a4 : (P + q * R) * n + R * n2 = y0 + 1 := by rw [← h.rm, f2]; grind
  have t1 := h.t1
  have hT2 : 1 ≤ Q + q * T := by
    have := Nat.mul_le_mul hq1 t1
    omega
  have hR2 : 1 ≤ P + q * R := by
    rcases h.id with ⟨i1, i2, _⟩ | ⟨_, h2, _, _⟩
    · omega
    · have := Nat.mul_le_mul hq1 h2; omega
  obtain ⟨R2, hR⟩ : ∃ R2, P + q * R = R2 := ⟨_, rfl⟩
  obtain ⟨T2, hT⟩ : ∃ T2, Q + q * T = T2 := ⟨_, rfl⟩
  rw [hR] at a2 a4 hR2 ⊢
  rw [hT] at a1 a3 hT2 ⊢
  have b1 : T2 * v ≤ x0 + 1 := by omega
  have b2 : R2 * v ≤ y0 := by omega
  have b3 : T2 * n ≤ x0 := by omega
  have b4 : R2 * n ≤ y0 + 1 := by omega
  cases e with
  | true =>
    obtain ⟨c1, c2, c3, c4, c5⟩ := h.e1 rfl
    have y1 : 1 ≤ y := by omega
    have z1 : q * y + T2 + n2 = x := by rw [c3, f2, ← hT, ← c4]; grind
    have z2 : q * y + v2 = x + R2 := by rw [← hR, c2]; have : x + P = v2 + q * v := by omega
                                        grind
    have z3 : v2 = x - q * y + R2 := by omega
    refine ⟨by omega, hq1, y1, ⟨a1, a2, a3, a4, fun h => by simp at h, fun _ => ⟨by omega, by omega, by omega, by omega, ?_⟩, hT2, Or.inr ⟨t1, hR2, d3, d4⟩, h.r9, h.t9, sq_small (b := v) (by omega) (by omega), sq_small (b := v) (by omega) (by omega)⟩⟩
    rw [← hR, ← hT]; grind
  | false =>
    obtain ⟨c1, c2, c3, c4, c5⟩ := h.e2 rfl
    have y1 : 1 ≤ y := by omega
    have z1 : q * y + R2 + v2 = x := by rw [c1, f1, ← hR, ← c2]; grind
    have z2 : q * y + n2 = x + T2 := by rw [← hT, c4]; have : x + Q = n2 + q * n := by omega
                                        grind
    refine ⟨by omega, hq1, y1, ⟨a1, a2, a3, a4, fun _ => ⟨by omega, by omega, by omega, by omega, ?_⟩, fun h => by simp at h, hT2, Or.inr ⟨t1, hR2, d3, d4⟩, h.r9, h.t9, sq_small (b := n) (by omega) (by omega), sq_small (b := n) (by omega) (by omega)⟩⟩
    rw [← hR, ← hT]; grind
def sg (e : Bool) (n : Nat) : Int := if e then (n : Int) else -(n : Int)
theorem sg_box (e : Bool) {n : Nat} (h : n ≤ 1000000000) : -1000000000 ≤ sg e n ∧ sg e n ≤ 1000000000 := by
 unfold sg; split <;> omega
theorem gcd_lin {a b c d P Q R T : Nat} (h1 : T * c + Q * d = a) (h2 : R * c + P * d = b) (h3 : (c + Q * b = P * a ∧ d + R * a = T * b) ∨ (c + P * a = Q * b ∧ d + T * b = R * a)) : Nat.gcd c d = Nat.gcd a b := by
 apply Nat.dvd_antisymm
 ·have k1 := Nat.gcd_dvd_left c d
  have k2 := Nat.gcd_dvd_right c d
  refine Nat.dvd_gcd ?_ ?_
  ·rw [← h1]; exact Nat.dvd_add (Nat.dvd_mul_left_of_dvd k1 _) (Nat.dvd_mul_left_of_dvd k2 _)
  ·rw [← h2]; exact Nat.dvd_add (Nat.dvd_mul_left_of_dvd k1 _) (Nat.dvd_mul_left_of_dvd k2 _)
 ·have k1 := Nat.gcd_dvd_left a b
  have k2 := Nat.gcd_dvd_right a b
  have m1 := fun n => Nat.dvd_mul_left_of_dvd k1 n
  have m2 := fun n => Nat.dvd_mul_left_of_dvd k2 n
  rcases h3 with ⟨h4, h5⟩ | ⟨h4, h5⟩
  ·exact Nat.dvd_gcd ((Nat.dvd_add_left (m2 Q)).1 (by rw [h4]; exact m1 P)) ((Nat.dvd_add_left (m1 R)).1 (by rw [h5]; exact m2 T))
  ·exact Nat.dvd_gcd ((Nat.dvd_add_left (m1 P)).1 (by rw [h4]; exact m2 Q)) ((Nat.dvd_add_left (m2 T)).1 (by rw [h5]; exact m1 R))
structure SE (a b c d : Nat) (s0 s1 s2 s3 : Int) : Prop where
 c0 : (c : Int) = s0 * (a : Int) + s1 * (b : Int)
 d0 : (d : Int) = s2 * (a : Int) + s3 * (b : Int)
 ca : c ≤ a
 da : d ≤ a
 dc : d < c
 g : Nat.gcd c d = Nat.gcd a b
 less : c + d < a + b
theorem se_close {a b c d P Q R T : Nat} (e : Bool) (h1 : T * c + Q * d = a) (h2 : R * c + P * d = b) (he : e = true → c + Q * b = P * a ∧ d + R * a = T * b) (he2 : e = false → c + P * a = Q * b ∧ d + T * b = R * a)
  (hT : 1 ≤ T) (hQ : 1 ≤ Q) (hR : 1 ≤ R) (hdc : d < c) : SE a b c d (sg e P) (sg (!e) Q) (sg (!e) R) (sg e T) := by
 have a1 := Nat.mul_le_mul_right c hT
 have a2 := Nat.mul_le_mul_right d hQ
 have a3 := Nat.mul_le_mul_right c hR
 have hg : Nat.gcd c d = Nat.gcd a b := gcd_lin h1 h2 (by cases e; exact Or.inr (he2 rfl); exact Or.inl (he rfl))
 cases e with
 | true =>
  obtain ⟨k1, k2⟩ := he rfl
  refine ⟨?_, ?_, by omega, by omega, hdc, hg, by omega⟩
  ·have : ((c + Q * b : Nat) : Int) = ((P * a : Nat) : Int) := by rw [k1]
   simp only [Int.natCast_add, Int.natCast_mul] at this
   simp only [sg, if_true, Bool.not_true, Bool.false_eq_true, if_false]
   grind
  ·have : ((d + R * a : Nat) : Int) = ((T * b : Nat) : Int) := by rw [k2]
   simp only [Int.natCast_add, Int.natCast_mul] at this
   simp only [sg, if_true, Bool.not_true, Bool.false_eq_true, if_false]
   grind
 | false =>
  obtain ⟨k1, k2⟩ := he2 rfl
  refine ⟨?_, ?_, by omega, by omega, hdc, hg, by omega⟩
  ·have : ((c + P * a : Nat) : Int) = ((Q * b : Nat) : Int) := by rw [k1]
   simp only [Int.natCast_add, Int.natCast_mul] at this
   simp only [sg, if_true, Bool.not_false, Bool.false_eq_true, if_false]
   grind
  ·have : ((d + T * b : Nat) : Int) = ((R * a : Nat) : Int) := by rw [k2]
   simp only [Int.natCast_add, Int.natCast_mul] at this
   simp only [sg, if_true, Bool.not_false, Bool.false_eq_true, if_false]
   grind
theorem st_end {x0 y0 x y P Q R T u v m n S a b : Nat} {e : Bool} (h : LSt x0 y0 e x y P Q R T u v m n) (hS : 0 < S) (ha : a / S = x0) (hb : b / S = y0) (h1 : 1 ≤ Q) (h2 : 1 ≤ R) (h3 : v < u) (h4 : n < m) :
  ∃ c d, SE a b c d (sg e P) (sg (!e) Q) (sg (!e) R) (sg e T) := by
 obtain ⟨ra, ra', ea, ea2⟩ : ∃ ra ra', a = S * x0 + ra ∧ S = ra + ra' := by
  refine ⟨a % S, S - a % S, ?_, ?_⟩
  ·rw [← ha]; exact (Nat.div_add_mod a S).symm
  ·have := Nat.mod_lt a hS; omega
 obtain ⟨rb, rb', eb, eb2⟩ : ∃ rb rb', b = S * y0 + rb ∧ S = rb + rb' := by
  refine ⟨b % S, S - b % S, ?_, ?_⟩
  ·rw [← hb]; exact (Nat.div_add_mod b S).symm
  ·have := Nat.mod_lt b hS; omega
 have tu := h.tu
 have ru := h.ru
 have tm := h.tm
 have rm := h.rm
 have t1 := h.t1
 clear ha hb
 cases e with
 | true =>
  obtain ⟨c1, c2, c3, c4, c5⟩ := h.e1 rfl
  obtain ⟨z, hz⟩ : ∃ z, m = n + 1 + z := ⟨m - n - 1, by omega⟩
  have k1 : P * x0 = x + Q * y0 := by
   have : P * x0 + Q = x + Q * (y0 + 1) := by rw [← tm, ← rm, c3]; grind
   grind
  have k2 : T * y0 = y + R * x0 := by
   have : T * y0 + R = y + R * (x0 + 1) := by rw [← tu, ← ru, c2]; grind
   grind
  obtain ⟨c, hc⟩ : ∃ c, S * m + Q * rb' + P * ra = c := ⟨_, rfl⟩
  obtain ⟨d, hd⟩ : ∃ d, S * v + R * ra' + T * rb = d := ⟨_, rfl⟩
  have q1 : c + Q * b = P * a := by rw [← hc, ea, eb]; grind
  have q2 : d + R * a = T * b := by rw [← hd, ea, eb]; grind
  refine ⟨c, d, se_close true ?_ ?_ (fun _ => ⟨q1, q2⟩) (fun h => by simp at h) t1 h1 h2 ?_⟩
  ·grind
  ·grind
  ·have w1 : c = d + S * (1 + z) + (Q + T) * rb' + (P + R) * ra := by rw [← hc, ← hd]; grind
   have w2 := Nat.mul_le_mul hS (show 1 ≤ 1 + z by omega)
   omega
 | false =>
  obtain ⟨c1, c2, c3, c4, c5⟩ := h.e2 rfl
  obtain ⟨z, hz⟩ : ∃ z, u = v + 1 + z := ⟨u - v - 1, by omega⟩
  have k1 : Q * y0 = x + P * x0 := by
   have : Q * y0 + P = x + P * (x0 + 1) := by rw [← tu, ← ru, c1]; grind
   grind
  have k2 : R * x0 = y + T * y0 := by
   have : R * x0 + T = y + T * (y0 + 1) := by rw [← tm, ← rm, c4]; grind
   grind
  obtain ⟨c, hc⟩ : ∃ c, S * u + P * ra' + Q * rb = c := ⟨_, rfl⟩
  obtain ⟨d, hd⟩ : ∃ d, S * n + T * rb' + R * ra = d := ⟨_, rfl⟩
  have q1 : c + P * a = Q * b := by rw [← hc, ea, eb]; grind
  have q2 : d + T * b = R * a := by rw [← hd, ea, eb]; grind
  refine ⟨c, d, se_close false ?_ ?_ (fun h => by simp at h) (fun _ => ⟨q1, q2⟩) t1 h1 h2 ?_⟩
  ·grind
  ·grind
  ·have w1 : c = d + S * (1 + z) + (P + R) * ra' + (Q + T) * rb := by rw [← hc, ← hd]; grind
   have w2 := Nat.mul_le_mul hS (show 1 ≤ 1 + z by omega)
   omega
end Go.Proofs.YtgihmikeapbpkaaGreatDoor
