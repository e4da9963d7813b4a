/- Contracts of the functions that the statements reach, part 3: what was proved of each, callees first. -/
import Derived.Shelf.SlGeneric
import Derived.Deep.RegionHeldLaw
import Derived.SizedLaws
import Derived.Test.YtihgnnocagfdeaaRT2
namespace Go.Proofs.Ytihgnnocagfdeaa
open Go.RowKit Go.Maps Go.Sort Go.Shelf
set_option maxRecDepth 100000 in
set_option maxHeartbeats 4000000 in
theorem sortedK_any (b n : Nat) (f : RK → Option Int) (w : World) (h : MapR w b n f) (hn : n ≤ 1000000) :
  Calls Try.prog 40 #[.func (.func 48) #[] #[.pointer (some ⟨w.heap.size, 0, none⟩)], .func (.func 42) #[] #[]] (w.alloc (.cells #[.map (some b)] 57)) fun e w' => ∃ (A : Option Addr) (c : Nat) (K : List (RK)), e = .returned (.slice A K.length c) ∧ RowAt lyK w' A K ∧ (∀ g o, A = some ⟨g, o, none⟩ → w.heap.size < g) ∧ AscK3 K ∧ (∀ k, k ∈ K ↔ (f k).isSome = true) ∧ K.length ≤ n ∧ Below w.heap.size w w' := by
 obtain ⟨D, hown, hD, hok⟩ := h
 have hbl := hown.lt
 have hszD : Maps.size D ≤ n := hown.size_le
 have hown1 : (w.alloc (.cells #[.map (some b)] 57)).ownsMap Try.prog 53 heldP b n D := hown.alloc _
 have hseq : SeqGives Fence.wide 2 Try.prog 48 #[.pointer (some ⟨w.heap.size, 0, none⟩)] keyV (fun ss => rtCollK D (fun _ => false) ss) (Maps.size D) (w.alloc (.cells #[.map (some b)] 57)) :=
  rtKeys_gives 2 (by omega) w.heap.size b n D _ (by simp) (by simp) hown1
 have eg := enters_of Try.func48 (by kernel_rfl) rfl
 have ec := enters_of Try.func42 (by kernel_rfl) rfl
 have cC := (callsIn_wide (n := 4)).1 (rtCollect 4 (by omega) _ _ eg _ _ (by omega : Maps.size D ≤ 1000000) _ hseq.bounded)
 have cS0 := fun W => AnyF.slices_SortFunc_none { Try.sortf47 with } none 0 (.func (.func 42) #[] #[]) W
 have cS := fun (blk cap : Nat) (d : Array (RK)) (W : World) (hH : HoldsK rtCelK 3 W blk 0 d) (hb : blk < W.heap.size) (hs : d.size < 4611686018427387904) =>
  AnyQ.slices_SortFunc_total Try.sortf47 3 Try.isAgg53 Try.sizeOf53 rtCelK (fun _ => rfl) (fun x v hv => by simp [rtCelK] at hv; rcases hv with rfl | rfl | rfl <;> rfl) cmR cmR_swo 42 #[] blk 0 cap d W ec (rtCmpLays blk 0 d.size W) hH hb hs cmR_tot
 change ∀ W, Calls Try.prog 47 _ _ _ at cS0
 change ∀ (blk cap : Nat) (d : Array (RK)) (W : World) (hH : HoldsK rtCelK 3 W blk 0 d) (hb : blk < W.heap.size) (hs : d.size < 4611686018427387904), Calls Try.prog 47 _ _ _ at cS
 have HD := Lib.hid hD
 have HOK := Lib.hid hok
 have HC := Lib.hid cC
 have HS0 := Lib.hid cS0
 have HS := Lib.hid cS
 have hB0 := Lib.hid (below_alloc_new (w := w) (.cells #[.map (some b)] 57))
 generalize hw1 : w.alloc (.cells #[.map (some b)] 57) = w1 at *
 have hs1 : w1.heap.size = w.heap.size + 1 := by rw [← hw1]; simp
 have HS1 := Lib.hid hs1
 clear hD hok cC cS0 cS hown hown1 hseq hw1 hs1
 generalize w.heap.size = s0 at *
 go_enter Try.func40, Try.ntmps40
 go_wp2_with (go_at_call 46; refine HC.out.mono ?_; rintro e w2 ⟨v, ss, rfl, ⟨hS, hlen⟩, hrow, hb2⟩)
 have hmem : ∀ k, k ∈ ss ↔ (f k).isSome = true := fun k => by
  rw [hS.2 k]
  constructor
  ·rintro ⟨h1, h2, _⟩
   rw [← (HD.out k h1).1]; exact h2
  ·intro h1
   have h2 := HOK.out k h1
   exact ⟨h2, by rw [(HD.out k h2).1]; exact h1, rfl⟩
 have hle : ss.length ≤ n := Nat.le_trans hlen hszD
 have hB2 : Below s0 w w2 := hB0.out.trans (hb2.mono (by have := HS1.out; omega))
 have HM := Lib.hid hmem
 have HSS := Lib.hid hS
 have HLE := Lib.hid hle
 have HR := Lib.hid hrow
 have HB2 := Lib.hid hB2
 have hs0l : s0 ≤ w2.heap.size := by have := hb2.size; have := HS1.out; omega
 have HSL := Lib.hid hs0l
 have hbase := Lib.hid (show s0 ≤ w1.heap.size by have := HS1.out; omega)
 clear hmem hS hle hB2 hb2 hlen hs0l
 rcases hrow.2 with ⟨rfl, hz⟩ | ⟨gb, cap, cur, rfl, hbg, hgb, r1, r2, r3, r4⟩
 ·obtain rfl : ss = [] := List.eq_nil_of_length_eq_zero hz
  clear hrow
  go_wp2_with (go_at_call 47; refine (HS0.out _).mono ?_; rintro e w3 ⟨rfl, rfl⟩)
  go_ret
  exact ⟨none, 0, [], rfl, fun h => absurd h (by simp), (fun g o h => by cases h), List.Pairwise.nil, HM.out, by simp, HB2.out⟩
 ·have hgl : gb < w2.heap.size := (Array.getElem?_eq_some_iff.1 hgb).1
  have hH := rtHoldsK hgb r4
  have hsz : ss.toArray.size < 4611686018427387904 := by have := HLE.out; simp; omega
  have hlen : (ss.toArray.size : Nat) = ss.length := by simp
  have c1 := HS.out gb cap ss.toArray w2 hH hgl hsz
  rw [hlen] at c1
  have HC1 := Lib.hid c1
  have HH := Lib.hid hH
  have HGL := Lib.hid hgl
  have HBG := Lib.hid hbg
  clear hrow c1 hsz hlen hH r1 r2 r3 r4 hgb hgl hbg
  go_wp2_with (go_at_call 47; refine HC1.out.mono ?_; rintro e w3 ⟨rfl, nn, os, rfl⟩)
  go_ret
  have hlm : (ss.mergeSort fun x y => !ltOf cmR y x).length = ss.length := List.length_mergeSort _
  have hhold : HoldsK rtCelK 3 (sortWorldK rtCelK 3 w2 gb 0 nn (ss.mergeSort fun x y => !ltOf cmR y x).toArray os) gb 0 (ss.mergeSort fun x y => !ltOf cmR y x).toArray := by
   unfold sortWorldK
   refine holdsK_grow rtCelK 3 _ os gb 0 _ (by unfold putRowK; rw [size_putRow]; exact HGL.out) ?_
   exact holdsK_putRowK rtCelK 3 _ gb 0 ss.toArray _ (holdsK_ahead rtCelK 3 w2 nn gb 0 _ HH.out) (by simp)
  have hsb : Below s0 w2 (sortWorldK rtCelK 3 w2 gb 0 nn (ss.mergeSort fun x y => !ltOf cmR y x).toArray os) := rtSortK_below (Nat.le_trans hbase.out HBG.out) HSL.out
  refine ⟨some ⟨gb, 0, none⟩, cap, ss.mergeSort fun x y => !ltOf cmR y x, by rw [hlm]; rfl, rtRow_of hhold (Nat.lt_of_lt_of_le HGL.out ?_), (fun g o h => by cases h; have := HBG.out; have := HS1.out; omega), rtSort_asc HSS.out.1, fun k => ?_, by rw [hlm]; exact HLE.out, HB2.out.trans hsb⟩
  ·unfold sortWorldK putRowK
   have h1 := (Lib.below_grow 0 (putRow id (Sort.ahead w2 nn) gb 0 (flatK rtCelK 3 (ss.mergeSort fun x y => !ltOf cmR y x).toArray)) (Nat.zero_le _) 0 os).size
   rw [size_putRow] at h1
   exact h1
  ·rw [(List.mergeSort_perm ss _).mem_iff]; exact HM.out k
theorem rtkeys_any (b : Nat) (w : World) : Calls Try.prog 41 #[.map (some b)] w fun e w' => e = .returned (.func (.func 48) #[] #[.pointer (some ⟨w.heap.size, 0, none⟩)]) ∧ w' = w.alloc (.cells #[.map (some b)] 57) := by
 go_enter Try.func41, Try.ntmps41
 go_wp2_with fail
 go_ret
 exact ⟨rfl, rfl⟩
def ratesOf (f : RK → Option Int) (K : List RK) : List Rt := K.map fun k => (k, (f k).getD 0)
theorem ratesOf_all {H : List Rt} {K : List RK} (hk : AscK3 K) (hm : ∀ k, k ∈ K ↔ (tbF H k).isSome = true) : ratesOf (tbF H) K = rtL H := by
 refine ascT_ext ?_ (rtL_asc H) fun x => ?_
 ·unfold AscT ratesOf
  rw [List.pairwise_map]
  exact hk
 ·rw [rtL_mem]
  unfold ratesOf
  rw [List.mem_map]
  constructor
  ·rintro ⟨k, h1, rfl⟩
   have h2 := (hm k).1 h1
   dsimp only
   cases h3 : tbF H k with
   | none => rw [h3] at h2; cases h2
   | some v => rfl
  ·intro h1
   refine ⟨x.1, (hm x.1).2 (by rw [h1]; rfl), ?_⟩
   rw [h1]; rfl
theorem step_app_rowT {α : Type} {R : Lay α} {e : TypeId} {base : Nat} {v : Value} {L : List α} {P : Program} {ops : Array Oper} {o : Oper} {a : Act} {tm : Array Value} {w : World} {K : Act → World → Prop} {Q : Exit → Act → World → Prop} {E : Prop} (hgd : o.guard = none) (s x : Operand) (t : TypeId)
  (ho : o.op = .call { callee := .builtin .append, args := #[s, x], argTypes := #[t, t] })
  (i : TypeInfo) (z : Value) (bytes : Nat) (ht : P.underlying t = some (.slice e)) (hi : P.info? e = some i) (hz : i.zero = some z) (hsize : i.size = R.s) (hby : i.bytes = bytes) (hb8 : bytes ≤ 1000) (hzs : z.cells.size = R.s)
  (hs : a.eval s = v) (hown : OwnR R e w base v L) (X : Option Addr) (m c : Nat) (M : List α) (hm : M.length = m) (hx : a.eval x = .slice X m c) (hX : RowAt R w X M)
  (hlen : L.length + m ≤ 100000000) (hbase : base ≤ w.heap.size)
  (h : ∀ v' w', Hid (OwnR R e w' base v' (L ++ M)) → Hid (w.grownBy w' v.ownBlock) → Hid (v'.ownBlock = v.ownBlock ∨ v'.ownBlock = some w.heap.size) → K (a.put o.dst v') w') :
  if Region.wanted o (yielded ops tm) = true then Oper.wp P o a w K Q else E := by
 rw [if_pos (by simp [Region.wanted, hgd])]
 exact wp_app_row s x t ho i z bytes ht hi hz hsize hby hb8 hzs hs hown X m c M hm hx hX hlen hbase h
theorem key_get {w : World} {A : Option Addr} {L : List RK} {i : Nat} {r : RK} (h : RowAt lyK w A L) (hi : L[i]? = some r) : ∃ bb off, A = some ⟨bb, off, none⟩ ∧ bb < w.heap.size ∧ (Instr.loadAt 53 (.pointer (some ⟨bb, off + i * 3, none⟩))).run Try.prog w = .ok (keyV r) w := by
 obtain ⟨bb, off, hA, hbl, hrg⟩ := h.at hi
 refine ⟨bb, off, hA, hbl, ?_⟩
 exact run_loadAt_mid w bb (off + i * 3) 53 (rtCelK r) _ (fun j v hj => hrg j v hj) Try.underlying53 rfl (by kernel_rfl)
structure LiS (w5 wr : World) (s0 : Nat) (v : Value) (L : List Rt) : Prop where
 own : OwnR lyT 24 wr s0 v L
 far : ∀ g, v.ownBlock = some g → g = s0 ∨ w5.heap.size ≤ g
 only : Only (fun k => k = s0 ∨ w5.heap.size ≤ k) w5 wr
theorem LiS.up {w5 wr w' : World} {s0 : Nat} {v : Value} {L : List Rt} (h : LiS w5 wr s0 v L) (hb : Below wr.heap.size wr w') : LiS w5 w' s0 v L := ⟨h.own.up hb, h.far, h.only.trans (Only.of hb)⟩
theorem LiS.step {w5 wr w' : World} {s0 : Nat} {v v' : Value} {L M : List Rt} (h : LiS w5 wr s0 v L) (ho : OwnR lyT 24 w' s0 v' M) (hg : wr.grownBy w' v.ownBlock) (hn : v'.ownBlock = v.ownBlock ∨ v'.ownBlock = some wr.heap.size) : LiS w5 w' s0 v' M := by
 refine ⟨ho, fun g hv => ?_, h.only.trans (Only.grown hg fun k hk => h.far k hk)⟩
 rcases hn with hn | hn
 ·exact h.far g (by rw [← hn]; exact hv)
 ·rw [hn] at hv; injection hv with hv
  exact .inr (by rw [← hv]; exact h.only.size)
set_option maxRecDepth 100000 in
set_option maxHeartbeats 6400000 in
theorem list16_any (j : TD) (H : List Rt) (B : Nat) (w : World) (hj : TK w B j H) (hn : H.length ≤ 900) : Calls Try.prog 28 #[j.p] w fun e w' => RowQ w (rtL H) e w' ∧ Below w.heap.size w w' := by
  obtain ⟨i0, hi, hz1, hz2, hz3⟩ := info_parts infoT
  have c1 := hj.box.at 1 _ rfl
  obtain ⟨q, hq, hlen⟩ := hj.mp.size 3
  have hq9 : q ≤ 900 := by omega
  obtain ⟨s0, hs0⟩ : ∃ s0, w.heap.size = s0 := ⟨_, rfl⟩
  have HS0 := Lib.hid hs0
  have HJ := Lib.hid hj
  have HN := Lib.hid hn
  have HKB := Lib.hid (fun W => rtkeys_any j.m W)
  have hbl : j.b < s0 := by rw [← hs0]; exact hj.box.lt
  have HBL := Lib.hid hbl
  clear hj hn hq
  obtain ⟨w3, hmk, hr3, hg3⟩ := run_make_own (P := Try.prog) w w.heap.size 22 24 i0 _ 4 Try.underlying22 hi hz1 hz2 .i64 .i64 q (by rw [hz3]; omega) (by unfold maxLen; omega) (Nat.le_refl _)
  have HR3 : Hid (OwnR lyT 24 w3 w.heap.size (.slice (some ⟨w.heap.size, 0, none⟩) 0 q) []) := Lib.hid hr3
  have HB3 : Hid (Below w.heap.size w w3) := Lib.hid ((Only.grown (S := fun _ => False) hg3 (fun k hk => by cases hk)).none)
  have c1b := (HB3.out.cell (p := ⟨j.b, 1, none⟩) (show j.b < w.heap.size by have := HBL.out; have := HS0.out; omega)).trans c1
  have HM3 := Lib.hid (HJ.out.mp.up HB3.out)
  have HSK := Lib.hid (sortedK_any j.m H.length (tbF H) w3 HM3.out (by have := HN.out; omega))
  rw [hs0] at hmk
  clear hr3 hg3
  go_enter Try.func28, Try.ntmps28
  go_wp2_with (first
    | (go_at_call 41; refine (HKB.out w3).mono ?_; rintro e w9 ⟨rfl, hw9⟩; subst hw9)
    | (go_at_call 40; refine HSK.out.mono ?_; rintro e w5 ⟨A, c, K, rfl, hK, hA, hasc, hmem, hkl, hb5⟩; have HK := Lib.hid hK; have HA := Lib.hid hA; have HKE := Lib.hid (ratesOf_all hasc hmem); have HMEM := Lib.hid hmem; have HKL := Lib.hid hkl; have HB5 := Lib.hid hb5; clear hK hA hasc hmem hkl hb5))
  obtain ⟨n, hnl⟩ : ∃ n, K.length = n := ⟨_, rfl⟩
  have HNL := Lib.hid hnl
  have hn9 : n ≤ 1000 := by rw [← hnl]; have := HKL.out; have := HN.out; omega
  have HN9 := Lib.hid hn9
  have HSZ3 : Hid (s0 < w3.heap.size) := Lib.hid (by
    have h1 := (HR3.out.lt (g := w.heap.size) rfl).2
    have := HS0.out
    omega)
  have HBB : Hid (Below s0 w w5) := Lib.hid (by
    have h1 := HB3.out.trans (HB5.out.mono HB3.out.size)
    rw [HS0.out] at h1
    exact h1)
  have HS3 : Hid (LiS w5 w5 s0 (.slice (some ⟨s0, 0, none⟩) 0 q) []) := Lib.hid ⟨by have h1 := HR3.out.up HB5.out; rw [HS0.out] at h1; exact h1, fun g hg => .inl (by cases hg; rfl), Only.refl _⟩
  have HTBL : Hid (∀ W, Only (fun k => k = s0 ∨ w5.heap.size ≤ k) w5 W → TK W B j H) := Lib.hid (fun W h => ((HJ.out.up (HB3.out.trans (HB5.out.mono HB3.out.size)))).only h (fun k hk hS => by
    have h1 := (HJ.out.own_lt hk).2
    have h2 := HS0.out
    have h3 := HBB.out.size
    omega))
  rw [hnl]
  clear hnl hlen hq9
  go_loopg [3, 21] n (fun kx s3 s21 wr => ∃ i : Nat, s21 = .int .i64 (i : Int) ∧ i ≤ n ∧ n - i ≤ kx ∧ Hid (LiS w5 wr s0 s3 (ratesOf (tbF H) (K.take i))))
  case atStart => exact ⟨0, rfl, by omega, by omega, HS3⟩
  case round =>
    obtain ⟨i, rfl, hi1, hix, HS⟩ := hrel
    by_cases hlt : i < n
    · have hltz : (i : Int) < (n : Int) := by omega
      obtain ⟨k, hk⟩ : ∃ k, K[i]? = some k := ⟨_, List.getElem?_eq_getElem (by rw [HNL.out]; exact hlt)⟩
      have HKR : Hid (RowAt lyK wr A K) := Lib.hid (HK.out.same fun g o hA9 => HS.out.only.blk g (by
        obtain ⟨bb, off, e, hbl, _⟩ := HK.out (by rw [HNL.out]; omega)
        rw [e] at hA9; cases hA9
        exact hbl) (fun h => by
          have h1 := HA.out g o hA9
          obtain ⟨bb, off, e, hbl, _⟩ := HK.out (by rw [HNL.out]; omega)
          rw [e] at hA9; cases hA9
          have := HSZ3.out
          omega))
      have HOKK : Hid (okR k) := Lib.hid (by
        obtain ⟨D, _, _, h4⟩ := HM3.out
        exact h4 k ((HMEM.out k).1 (List.mem_of_getElem? hk)))
      obtain ⟨bb, off, hA9, hbl9, hld⟩ := key_get HKR.out hk
      subst hA9
      have HTK : Hid (ratesOf (tbF H) (K.take (i + 1)) = ratesOf (tbF H) (K.take i) ++ [(k, (tbF H k).getD 0)]) := Lib.hid (by rw [List.take_add_one, hk]; unfold ratesOf; rw [List.map_append]; rfl)
      have HT := Lib.hid (HTBL.out wr HS.out.only)
      obtain ⟨k1, k2, k3⟩ := k
      obtain ⟨V, hV⟩ : ∃ V, (tbF H (k1, k2, k3)).getD 0 = V := ⟨_, rfl⟩
      rw [hV] at HTK
      have HLD : Hid ((Instr.loadAt 53 (.pointer (some ⟨bb, off + i * 3, none⟩))).run Try.prog wr = .ok (.agg #[.string k1, .int .i64 k2, .int .i64 k3]) wr) := Lib.hid hld
      have HLK : Hid (∀ W, Below wr.heap.size wr W → (Instr.lookup 57 (.map (some j.m)) (keyV (k1, k2, k3)) false).run Try.prog W = .ok (.int .i64 V) W) := Lib.hid (fun W h => by rw [← hV]; exact (HT.out.mp.up h).look HOKK.out)
      obtain ⟨s5, hs5⟩ : ∃ s5, wr.heap.size = s5 := ⟨_, rfl⟩
      obtain ⟨w6, hw6⟩ : ∃ w6, wr.alloc (.cells #[.string k1, .int .i64 k2, .int .i64 k3] 53) = w6 := ⟨_, rfl⟩
      have HX6 : Hid (K3 w6 s5 (k1, k2, k3)) := Lib.hid (by rw [← hw6, ← hs5]; exact k3_new wr _ (k1, k2, k3))
      have HB6 : Hid (Below wr.heap.size wr w6) := Lib.hid (by rw [← hw6]; exact below_alloc_new _)
      have HS6 : Hid (LiS w6 w6 s0 u3 (ratesOf (tbF H) (K.take i)) → True) := Lib.hid (fun _ => trivial)
      have HS9 : Hid (LiS w5 w6.drew s0 u3 (ratesOf (tbF H) (K.take i))) := Lib.hid ((HS.out.up HB6.out).up (dc_drew (Below.refl _ _)))
      have HE0 : Hid (∀ W, Below w6.heap.size w6 W → W.cell? ⟨s5, 0, none⟩ = some (.string k1) ∧ W.cell? ⟨s5, 1, none⟩ = some (.int .i64 k2) ∧ W.cell? ⟨s5, 2, none⟩ = some (.int .i64 k3) ∧ W.cell? ⟨j.b, 1, none⟩ = some (.map (some j.m))) := Lib.hid (fun W h => ⟨(HX6.out.up h).c0, (HX6.out.up h).c1, (HX6.out.up h).c2, ((HT.out.up HB6.out).up h).box.at 1 _ rfl⟩)
      obtain ⟨e0, e1, e2, e3⟩ := HE0.out _ (dc_drew (Below.refl _ _))
      have hlk := HLK.out _ (dc_drew HB6.out)
      have HSZ : Hid (s0 ≤ w6.heap.size) := Lib.hid (by have h1 := HS.out.only.size; have h2 := HB6.out.size; have h3 := HBB.out.size; have h4 := HS0.out; omega)
      have HLN : Hid ((ratesOf (tbF H) (K.take i)).length ≤ 1000) := Lib.hid (by unfold ratesOf; rw [List.length_map, List.length_take]; have := HNL.out; have := HN9.out; omega)
      have HE2 : Hid (∀ o, (w6.drew.alloc o).cell? ⟨s5, 0, none⟩ = some (.string k1) ∧ (w6.drew.alloc o).cell? ⟨s5, 1, none⟩ = some (.int .i64 k2) ∧ (w6.drew.alloc o).cell? ⟨s5, 2, none⟩ = some (.int .i64 k3) ∧ (w6.drew.alloc o).cell? ⟨j.b, 1, none⟩ = some (.map (some j.m))) := Lib.hid (fun o => HE0.out _ ((dc_drew (Below.refl _ _)).alloc (Nat.le_refl _) o))
      have HFS : Hid (some s5 ≠ u3.ownBlock) := Lib.hid (fun e => by have h1 := (HS.out.own.lt e.symm).2; omega)
      have HFB : Hid (some j.b ≠ u3.ownBlock) := Lib.hid (fun e => by have h1 := (HS.out.own.lt e.symm).1; have := HBL.out; omega)
      clear hk hld hV hbl9 HS6
      go_upto_region 7 with (refine wpList_load_is rfl 53 _ rfl _ rfl (.agg #[.string k1, .int .i64 k2, .int .i64 k3]) HLD.out ?_)
      go_region_held_law (fun w' => w'.cell? ⟨s5, 0, none⟩ = some (.string k1) ∧ w'.cell? ⟨s5, 1, none⟩ = some (.int .i64 k2) ∧ w'.cell? ⟨s5, 2, none⟩ = some (.int .i64 k3) ∧ w'.cell? ⟨j.b, 1, none⟩ = some (.map (some j.m))) (first | exact hS7 | exact ⟨e0, e1, e2, e3⟩ | exact HE2.out _ | go_keep)
        (first
          | (refine step_app_rowT (R := lyT) rfl (.tmp 25) (.tmp 39) 22 rfl i0 _ 40 Try.underlying22 hi hz1 hz2 hz3 (by omega) rfl rfl (HS9.out.own.up (below_alloc_new _)) (some ⟨w6.drew.heap.size, 0, none⟩) 1 1 [((k1, k2, k3), V)] rfl rfl (row_one (R := lyT) (x := ((k1, k2, k3), V)) (Wh.new w6.drew 24 (rtC ((k1, k2, k3), V)))) (by have := HLN.out; simp; omega) (by have := HSZ.out; simp; omega) ?_
             intro v7 w7 ho7 hg7 hn7
             have hS7 : w7.cell? ⟨s5, 0, none⟩ = some (.string k1) ∧ w7.cell? ⟨s5, 1, none⟩ = some (.int .i64 k2) ∧ w7.cell? ⟨s5, 2, none⟩ = some (.int .i64 k3) ∧ w7.cell? ⟨j.b, 1, none⟩ = some (.map (some j.m)) := ⟨hg7.out.cell (HE2.out _).1 HFS.out, hg7.out.cell (HE2.out _).2.1 HFS.out, hg7.out.cell (HE2.out _).2.2.1 HFS.out, hg7.out.cell (HE2.out _).2.2.2 HFB.out⟩))
      all_goals
        have HS7 : Hid (LiS w5 w7 s0 v7 (ratesOf (tbF H) (K.take (i + 1)))) := Lib.hid (by rw [HTK.out]; exact (HS9.out.up (below_alloc_new _)).step ho7.out hg7.out hn7.out)
        clear ho7 hg7 hn7 hS7 HS9 e0 e1 e2 e3 HE2 hlk HS
        go_wp2_with fail
        go_roundg (n - (i + 1))
        case measure => omega
        case rel => exact ⟨i + 1, by first | go_num | (have := HN9.out; go_num), by omega, by omega, HS7⟩
    · obtain rfl : i = n := by omega
      have hltz : ¬ (i : Int) < (i : Int) := by omega
      have hT1 : K.take i = K := List.take_of_length_le (by rw [HNL.out]; exact Nat.le_refl _)
      rw [hT1, HKE.out] at HS
      obtain ⟨A1, c1', e1, q1, -⟩ := HS.out.own.reads
      subst e1
      go_wp2_with fail
      go_ret
      exact ⟨⟨A1, c1', rfl, by rw [HS0.out]; exact HS.out.own⟩, by have h9 := HBB.out.trans (HS.out.only.below (fun k hk => by have := HBB.out.size; have := HS0.out; omega) (by have := HBB.out.size; have := HS0.out; omega)); first | exact h9 | (rw [HS0.out]; exact h9)⟩
open Go.RowKit Go.Sort
def TP (w : World) (B : Nat) (P : Value) (j : TD) (H : List Rt) : Prop := j.p = P ∧ TK w B j H
section
variable {w w' : World} {B : Nat} {P : Value} {j : TD} {H : List Rt}
theorem TP.up (h : TP w B P j H) (hb : Below w.heap.size w w') : TP w' B P j H := ⟨h.1, h.2.up hb⟩
theorem TP.only {S : Nat → Prop} (h : TP w B P j H) (hb : Only S w w') (hS : ∀ k, j.own H.length k → ¬ S k) : TP w' B P j H := ⟨h.1, h.2.only hb hS⟩
end
structure GoP (w w' : World) (B : Nat) (P : Value) (j : TD) (H : List Rt) (k : TD) (G : List Rt) : Prop where
 tp : TP w' B P k G
 mv : Moved w w' j H.length k G.length
theorem GoP.below {w w' : World} {B : Nat} {P : Value} {j k : TD} {H G : List Rt} (h : GoP w w' B P j H k G) (hj : TP w B P j H) (hB : B ≤ w.heap.size) : Below B w w' := h.mv.below (fun _ hx => (hj.2.own_lt hx).1) hB
theorem GoP.g {w w' : World} {B : Nat} {P : Value} {j k : TD} {H G : List Rt} (h : GoP w w' B P j H k G) : k.g = j.g := h.mv.g
theorem GoP.of {w w' : World} {B : Nat} {P : Value} {j : TD} {H G : List Rt} (hj : TP w B P j H) (h : SetG w B j H G w') : ∃ k, GoP w w' B P j H k G := by
 obtain ⟨k, h1, h2⟩ := h
 exact ⟨k, ⟨by rw [← hj.1]; unfold TD.p; rw [h2.b], h1⟩, h2⟩
theorem setP_any {P : Value} {j : TD} {H : List Rt} (x : Rt) {B : Nat} {w : World} (hj : TP w B P j H) (hBw : B ≤ w.heap.size) (hok : okR x.1) (hn : H.length ≤ 900) (E : Int) (hE : (if rtP j.g x then (0 : Int) else 1) = E) : Calls Try.prog 22 #[P, rtVl x] w fun e w' => e = .returned (.int .i64 E) ∧ ∃ k, GoP w w' B P j H k (adR j.g H x) := by
 have h1 := set_any j H x B w hj.2 hBw hok hn
 rw [hj.1] at h1
 refine h1.mono fun e w' h2 => ⟨?_, GoP.of hj h2.2.moved⟩
 rw [← hE]; exact h2.1
theorem setL_any {P : Value} {j : TD} {H : List Rt} (A : Option Addr) (cp : Nat) (L : List Rt) {B : Nat} {w : World} (hj : TP w B P j H) (hB : B ≤ w.heap.size) (hz : RowAt lyT w A L) (hA : 0 < L.length → ∀ g o, A = some ⟨g, o, none⟩ → ¬ j.own H.length g) (hok : ∀ r ∈ L, okT r) (hn : H.length + L.length ≤ 900) :
  Calls Try.prog 29 #[P, .slice A L.length cp] w fun e w' => e = .returned (.tuple #[]) ∧ ∃ k, GoP w w' B P j H k (H ++ rtH j.g L) := by
 have h1 := set16_any j H B A cp L w hj.2 hB hz hA hok hn
 rw [hj.1] at h1
 exact h1.mono fun e w' h2 => ⟨h2.1, GoP.of hj h2.2⟩
theorem getP_any {P : Value} {j : TD} {H : List Rt} (q : RK) {B : Nat} {w : World} (hj : TP w B P j H) (hok : okR q) : Calls Try.prog 27 #[P, .string q.1, .int .i64 q.2.1, .int .i64 q.2.2] w fun e w' => e = .returned (.tuple #[.int .i64 ((tbF H q).getD 0), .bool (tbF H q).isSome]) ∧ w = w' := by
 have h1 := get_any j H q B w hj.2 hok
 rw [hj.1] at h1
 exact h1
theorem hisP_any {P : Value} {j : TD} {H : List Rt} {B : Nat} {w : World} (hj : TP w B P j H) (hn : H.length ≤ 900) : Calls Try.prog 26 #[P] w fun e w' => RowQ w H e w' ∧ Below w.heap.size w w' := by
 have h1 := his_any j H B w hj.2 (by omega)
 rw [hj.1] at h1
 exact h1
theorem listP_any {P : Value} {j : TD} {H : List Rt} {B : Nat} {w : World} (hj : TP w B P j H) (hn : H.length ≤ 900) : Calls Try.prog 28 #[P] w fun e w' => RowQ w (rtL H) e w' ∧ Below w.heap.size w w' := by
 have h1 := list16_any j H B w hj.2 hn
 rw [hj.1] at h1
 exact h1
def NwT (w : World) (g : ByteArray) (e : Ending) (w' : World) : Prop := if curB g = true then ∃ (b : Nat) (j : TD), e = .returned (.tuple #[.pointer (some ⟨b, 0, none⟩), .int .i64 0]) ∧ TP w' w.heap.size (.pointer (some ⟨b, 0, none⟩)) j [] ∧ j.g = g else e = .returned (.tuple #[.pointer none, .int .i64 1])
theorem nwT_any (g : ByteArray) (w : World) : Calls Try.prog 19 #[.string g] w fun e w' => NwT w g e w' ∧ Below w.heap.size w w' := by
 refine (new_any16 g w).mono fun e w' h => ⟨?_, h.2⟩
 have h1 := h.1
 unfold NewT at h1
 unfold NwT
 by_cases hc : curB g = true
 ·rw [if_pos hc] at h1 ⊢
  obtain ⟨b, m, h2, h3⟩ := h1
  exact ⟨b, _, h2, ⟨rfl, h3⟩, rfl⟩
 ·rw [if_neg hc] at h1 ⊢
  exact h1
def OfT (w : World) (g : ByteArray) (L : List Rt) (e : Ending) (w' : World) : Prop := if rtV g L = true then ∃ (b : Nat) (j : TD), e = .returned (.tuple #[.pointer (some ⟨b, 0, none⟩), .int .i64 0]) ∧ TP w' w.heap.size (.pointer (some ⟨b, 0, none⟩)) j L ∧ j.g = g else e = .returned (.tuple #[.pointer none, .int .i64 1])
theorem putP_any {P : Value} {j : TD} {H : List Rt} (x : Rt) {B : Nat} {w : World} (hj : TP w B P j H) (hBw : B ≤ w.heap.size) (hok : okR x.1) (hn : H.length ≤ 5000) : Calls Try.prog 38 #[P, rtVl x] w fun e w' => e = .returned (.tuple #[]) ∧ ∃ k, GoP w w' B P j H k (H ++ [x]) := by
 have h1 := put_any j H x B w hj.2 hBw hok hn
 rw [hj.1] at h1
 exact h1.mono fun e w' h2 => ⟨h2.1, GoP.of hj h2.2.moved⟩
set_option maxRecDepth 100000 in
set_option maxHeartbeats 3200000 in
theorem of16_any (g : ByteArray) (A : Option Addr) (cp : Nat) (L : List Rt) (w : World) (hz : RowAt lyT w A L) (hl : L.length ≤ 100000) (hok : ∀ r ∈ L, okT r) : Calls Try.prog 24 #[.string g, .slice A L.length cp] w fun e w' => OfT w g L e w' ∧ Below w.heap.size w w' := by
 have HV := Lib.hid (valid16_any g A cp L w hz hl hok)
 have HZ := Lib.hid hz
 have HOK := Lib.hid hok
 obtain ⟨n, hnl⟩ : ∃ n, L.length = n := ⟨_, rfl⟩
 have HNL := Lib.hid hnl
 rw [hnl] at HV ⊢
 cases hv : rtV g L
 ·rw [hv] at HV
  have HVE := Lib.hid hv
  clear hz hl hok hnl hv
  go_enter Try.func24, Try.ntmps24
  go_wp2_with (go_at_call 17; refine HV.out.mono ?_; rintro e w1 ⟨rfl, hb⟩; have HB := Lib.hid hb; clear hb)
  go_ret2
  exact ⟨by unfold OfT; rw [HVE.out]; rfl, HB.out⟩
 ·rw [hv] at HV
  have HVE := Lib.hid hv
  have HCU : Hid (curB g = true) := Lib.hid (rtV_iff.1 hv).1
  have HN1 : Hid (n ≤ 1000) := Lib.hid (by rw [← hnl]; exact (rtV_iff.1 hv).2.1)
  have HNW : Hid (∀ W, Calls Try.prog 19 #[.string g] W fun e w' => (∃ (b : Nat) (j : TD), e = .returned (.tuple #[.pointer (some ⟨b, 0, none⟩), .int .i64 0]) ∧ TP w' W.heap.size (.pointer (some ⟨b, 0, none⟩)) j [] ∧ j.g = g) ∧ Below W.heap.size W w') := Lib.hid (fun W => (nwT_any g W).mono fun e w' h => ⟨by have h1 := h.1; unfold NwT at h1; rw [if_pos HCU.out] at h1; exact h1, h.2⟩)
  clear hz hl hok hnl hv
  go_enter Try.func24, Try.ntmps24
  go_wp2_with (first
   | (go_at_call 17; refine HV.out.mono ?_; rintro e w1 ⟨rfl, hb⟩; have HB := Lib.hid hb; clear hb)
   | (go_at_call 19; refine (HNW.out _).mono ?_; rintro e w2 ⟨⟨b, j, rfl, hj, hg⟩, hb⟩; have HJ := Lib.hid hj; have HG := Lib.hid hg; have HB2 := Lib.hid hb; clear hj hg hb))
  obtain ⟨P, hP⟩ : ∃ P, Value.pointer (some ⟨b, 0, none⟩) = P := ⟨_, rfl⟩
  have HPE := Lib.hid hP
  rw [hP] at HJ ⊢
  clear hP
  have hn9 : n ≤ 1000 := HN1.out
  go_loopg [21] n (fun kx s21 wr => ∃ (i : Nat) (k : TD), s21 = .int .i64 (i : Int) ∧ i ≤ n ∧ n - i ≤ kx ∧ Hid (GoP w2 wr w1.heap.size P j [] k (L.take i)))
  case atStart => exact ⟨0, j, rfl, by omega, by omega, Lib.hid ⟨HJ.out, Moved.refl (Below.refl _ _)⟩⟩
  case round =>
   obtain ⟨i, k, rfl, hi, hix, HM⟩ := hrel
   by_cases hlt : i < n
   ·have hltz : (i : Int) < (n : Int) := by omega
    obtain ⟨r, hr⟩ : ∃ r, L[i]? = some r := ⟨_, List.getElem?_eq_getElem (by rw [HNL.out]; exact hlt)⟩
    have HBW : Hid (Below w.heap.size w wr) := Lib.hid (by
     have h1 := HM.out.below HJ.out HB2.out.size
     exact (HB.out.trans (HB2.out.mono HB.out.size)).trans (h1.mono HB.out.size))
    obtain ⟨bb, off, hA9, -, hld⟩ := rt_get HZ.out hr
    subst hA9
    have HOT := Lib.hid (HOK.out r (List.mem_of_getElem? hr))
    have HTK : Hid (L.take (i + 1) = L.take i ++ [r]) := Lib.hid (by rw [List.take_add_one, hr]; rfl)
    obtain ⟨⟨c, kd, m⟩, v⟩ := r
    have HLD : Hid ((Instr.loadAt 24 (.pointer (some ⟨bb, off + i * 4, none⟩))).run Try.prog wr = .ok (.agg #[.string c, .int .i64 kd, .int .i64 m, .int .i64 v]) wr) := Lib.hid (hld wr HBW.out)
    obtain ⟨s5, hs5⟩ : ∃ s5, wr.heap.size = s5 := ⟨_, rfl⟩
    obtain ⟨w6, hw6⟩ : ∃ w6, wr.alloc (.cells #[.string c, .int .i64 kd, .int .i64 m, .int .i64 v] 24) = w6 := ⟨_, rfl⟩
    have HX6 : Hid (Wh 24 w6 s5 (rtC ((c, kd, m), v))) := Lib.hid (by rw [← hw6, ← hs5]; exact rt_box wr c kd m v)
    have HB6 : Hid (Below wr.heap.size wr w6) := Lib.hid (by rw [← hw6]; exact below_alloc_new _)
    have HPU : Hid (Calls Try.prog 38 #[P, .agg #[.string c, .int .i64 kd, .int .i64 m, .int .i64 v]] w6 fun e w' => e = .returned (.tuple #[]) ∧ ∃ k2, GoP w6 w' w1.heap.size P k (L.take i) k2 (L.take i ++ [((c, kd, m), v)])) := Lib.hid (putP_any ((c, kd, m), v) (HM.out.tp.up HB6.out) (Nat.le_trans (Nat.le_trans HB2.out.size HM.out.mv.only.size) HB6.out.size) HOT.out.1 (by rw [List.length_take]; have := HNL.out; omega))
    clear hr hld
    go_wp2_with (first
     | (refine wpList_load_is rfl 24 _ rfl _ rfl (.agg #[.string c, .int .i64 kd, .int .i64 m, .int .i64 v]) HLD.out ?_)
     | (refine wpList_load_is rfl 24 _ rfl (.pointer (some ⟨s5, 0, none⟩)) rfl (.agg #[.string c, .int .i64 kd, .int .i64 m, .int .i64 v]) (rate_load HX6.out) ?_)
     | (go_at_call 38; refine HPU.out.mono ?_; rintro e w7 ⟨rfl, k2, hm2⟩; have HM2 : Hid (GoP w2 w7 w1.heap.size P j [] k2 (L.take (i + 1))) := Lib.hid (by rw [HTK.out]; exact ⟨hm2.tp, HM.out.mv.trans ((Moved.refl HB6.out).trans hm2.mv)⟩); clear hm2))
    go_roundg (n - (i + 1))
    case measure => omega
    case rel => exact ⟨i + 1, k2, by go_num, by omega, by omega, HM2⟩
   ·obtain rfl : i = n := by omega
    have hltz : ¬ (i : Int) < (i : Int) := by omega
    have hT1 : L.take i = L := List.take_of_length_le (by rw [HNL.out]; exact Nat.le_refl _)
    rw [hT1] at HM
    go_wp2_with fail
    go_ret2
    have h1 := HM.out.below HJ.out HB2.out.size
    refine ⟨?_, (HB.out.trans (HB2.out.mono HB.out.size)).trans (h1.mono HB.out.size)⟩
    unfold OfT
    rw [if_pos HVE.out]
    have h2 := HM.out.tp
    exact ⟨b, k, by rw [HPE.out]; rfl, by rw [HPE.out]; exact ⟨h2.1, h2.2.low HB.out.size⟩, HM.out.g.trans HG.out⟩
abbrev eurT : ByteArray := ⟨#[69, 85, 82]⟩
abbrev usd1 : Rt := ((⟨#[85, 83, 68]⟩, 1, 20000), 920000)
abbrev usd2 : Rt := ((⟨#[85, 83, 68]⟩, 1, 20000), 930000)
theorem usd_ok : okR (⟨#[85, 83, 68]⟩, 1, 20000) := ⟨by decide, by decide, by decide⟩
theorem eur_ok : curB eurT = true := by decide +kernel
theorem usd1_ok : rtP eurT usd1 = true := by decide +kernel
theorem usd2_ok : rtP eurT usd2 = true := by decide +kernel
theorem usd_len : (rtL [usd1, usd2]).length = 1 := by decide +kernel
theorem usd_get : (tbF [usd1, usd2] (⟨#[85, 83, 68]⟩, 1, 20000)) = some 930000 := by decide +kernel
set_option maxRecDepth 100000 in
set_option maxHeartbeats 3200000 in
theorem awake16_any (w : World) : Calls Try.prog 11 #[] w fun e w' => e = .returned (.bool true) ∧ Below w.heap.size w w' := by
 have HNW : Hid (Calls Try.prog 19 #[.string eurT] w fun e w' => (∃ (b : Nat) (j : TD), e = .returned (.tuple #[.pointer (some ⟨b, 0, none⟩), .int .i64 0]) ∧ TP w' w.heap.size (.pointer (some ⟨b, 0, none⟩)) j [] ∧ j.g = eurT) ∧ Below w.heap.size w w') := Lib.hid ((nwT_any eurT w).mono fun e w' h => ⟨by have h1 := h.1; unfold NwT at h1; rw [if_pos eur_ok] at h1; exact h1, h.2⟩)
 have HS1 : Hid (∀ (P : Value) (j : TD) (W : World), TP W w.heap.size P j [] → j.g = eurT → w.heap.size ≤ W.heap.size → Calls Try.prog 22 #[P, .agg #[.string ⟨#[85, 83, 68]⟩, .int .i64 1, .int .i64 20000, .int .i64 920000]] W fun e w' => e = .returned (.int .i64 0) ∧ ∃ k, GoP W w' w.heap.size P j [] k [usd1]) := Lib.hid (fun P j W hj hg hB => by
  have h1 := setP_any usd1 hj hB usd_ok (by simp) 0 (by rw [hg, usd1_ok]; rfl)
  rw [show adR j.g [] usd1 = [usd1] by unfold adR; rw [hg, usd1_ok]; rfl] at h1
  exact h1)
 have HS2 : Hid (∀ (P : Value) (j : TD) (W : World), TP W w.heap.size P j [usd1] → j.g = eurT → w.heap.size ≤ W.heap.size → Calls Try.prog 22 #[P, .agg #[.string ⟨#[85, 83, 68]⟩, .int .i64 1, .int .i64 20000, .int .i64 930000]] W fun e w' => e = .returned (.int .i64 0) ∧ ∃ k, GoP W w' w.heap.size P j [usd1] k [usd1, usd2]) := Lib.hid (fun P j W hj hg hB => by
  have h1 := setP_any usd2 hj hB usd_ok (by simp) 0 (by rw [hg, usd2_ok]; rfl)
  rw [show adR j.g [usd1] usd2 = [usd1, usd2] by unfold adR; rw [hg, usd2_ok]; rfl] at h1
  exact h1)
 have HGT : Hid (∀ (P : Value) (j : TD) (W : World), TP W w.heap.size P j [usd1, usd2] → Calls Try.prog 27 #[P, .string ⟨#[85, 83, 68]⟩, .int .i64 1, .int .i64 20000] W fun e w' => e = .returned (.tuple #[.int .i64 930000, .bool true]) ∧ W = w') := Lib.hid (fun P j W hj => by
  have h1 := getP_any (⟨#[85, 83, 68]⟩, 1, 20000) hj usd_ok
  rw [usd_get] at h1
  exact h1)
 have HLS : Hid (∀ (P : Value) (j : TD) (W : World), TP W w.heap.size P j [usd1, usd2] → Calls Try.prog 28 #[P] W fun e w' => (∃ A c, e = .returned (.slice A 1 c)) ∧ Below W.heap.size W w') := Lib.hid (fun P j W hj => (listP_any hj (by simp)).mono fun e w' h => ⟨by obtain ⟨A, c, h1, _⟩ := h.1; rw [usd_len] at h1; exact ⟨A, c, h1⟩, h.2⟩)
 have HHS : Hid (∀ (P : Value) (j : TD) (W : World), TP W w.heap.size P j [usd1, usd2] → Calls Try.prog 26 #[P] W fun e w' => (∃ A c, e = .returned (.slice A 2 c)) ∧ Below W.heap.size W w') := Lib.hid (fun P j W hj => (hisP_any hj (by simp)).mono fun e w' h => ⟨by obtain ⟨A, c, h1, _⟩ := h.1; exact ⟨A, c, h1⟩, h.2⟩)
 have HM1 : Hid True := Lib.hid trivial
 go_enter Try.func11, Try.ntmps11
 go_wp2_with (first
  | (go_at_call 19; refine HNW.out.mono ?_; rintro e w1 ⟨⟨b, j, rfl, hj, hg⟩, hb⟩; have HJ := Lib.hid hj; have HG := Lib.hid hg; have HB := Lib.hid hb; clear hj hg hb)
  | (clear HM1; go_at_call 22; refine (HS1.out _ _ _ HJ.out HG.out HB.out.size).mono ?_; rintro e w2 ⟨rfl, k, hm⟩; have HJ1 := Lib.hid hm.tp; have HG1 := Lib.hid (hm.g.trans HG.out); have HB1 := Lib.hid (HB.out.trans (hm.below HJ.out HB.out.size)); clear hm)
  | (go_at_call 22; refine (HS2.out _ _ _ HJ1.out HG1.out HB1.out.size).mono ?_; rintro e w3 ⟨rfl, k2, hm⟩; have HJ2 := Lib.hid hm.tp; have HB2 := Lib.hid (HB1.out.trans (hm.below HJ1.out HB1.out.size)); clear hm)
  | (go_at_call 27; refine (HGT.out _ _ _ HJ2.out).mono ?_; rintro e w4 ⟨rfl, rfl⟩)
  | (go_at_call 28; refine (HLS.out _ _ _ HJ2.out).mono ?_; rintro e w5 ⟨⟨A5, c5, rfl⟩, hb⟩; have HB5 := Lib.hid hb; have HJ5 := Lib.hid (HJ2.out.up hb); clear hb)
  | (go_at_call 26; refine (HHS.out _ _ _ HJ5.out).mono ?_; rintro e w6 ⟨⟨A6, c6, rfl⟩, hb⟩; have HB6 := Lib.hid hb; clear hb))
 go_ret
 exact ⟨rfl, (HB2.out.trans (HB5.out.mono HB2.out.size)).trans (HB6.out.mono (Nat.le_trans HB2.out.size HB5.out.size))⟩
open Go.ChangeShapes Go.WideShapes Go.ChangeAt Go.WideMaps Go.WideElems Go.RowKit Go.Deep Go.Joins
theorem list_of_all {α : Type} {S : Nat → α → Prop} : ∀ n : Nat, (∀ k, k < n → ∃ a, S k a) → ∃ L : List α, L.length = n ∧ ∀ k, k < n → ∃ a, L[k]? = some a ∧ S k a
 | 0, _ => ⟨[], rfl, fun k h => absurd h (by omega)⟩
 | n + 1, h => by
  obtain ⟨L, hl, hL⟩ := list_of_all n fun k hk => h k (by omega)
  obtain ⟨a, ha⟩ := h n (by omega)
  refine ⟨L ++ [a], by simp [hl], fun k hk => ?_⟩
  rcases Nat.lt_or_ge k n with h1 | h1
  ·obtain ⟨b, hb, hs⟩ := hL k h1
   exact ⟨b, by rw [List.getElem?_append_left (by omega)]; exact hb, hs⟩
  ·obtain rfl : k = n := by omega
   exact ⟨a, by rw [List.getElem?_append_right (by omega), hl]; simp, ha⟩
section
variable {H : Type} {enc : TypeId × Value → H} {P : Program} {W : World}
theorem open_rowsG {α : Type} (R : Lay α) {T E : TypeId} {fuel : Nat} {cs : List Value} {x : DataW H × List MemPlace} (hT : P.underlying T = some (.slice E)) (hC : P.cellsOf E = R.s) (q : α → Prop)
  (hread : ∀ fuel cs x, DataW.trod enc P W 0 (fun _ => true) true fuel E cs = some x → ∃ a, cs = R.cel a ∧ q a)
  (hf : DataW.trod enc P W 0 (fun _ => true) true fuel T cs = some x) :
  ∃ A len cap L, cs = [.slice A len cap] ∧ L.length = len ∧ len ≤ 9223372036854775807 ∧ RowAt R W A L ∧ ∀ a ∈ L, q a := by
 rcases open_slice hT hf with ⟨hcs, -⟩ | ⟨a, len, cap, m, n, D, Pl, hcs, -, hl, hm, hmm, -, hx⟩
 ·exact ⟨none, 0, 0, [], hcs, rfl, by omega, RowAt.nil, fun a ha => by cases ha⟩
 ·simp only [if_true] at hmm
  subst hmm
  unfold maxLen at hm
  have key : ∀ k, k < len → ∃ y : α, (∀ j v, (R.cel y)[j]? = some v → W.cell? (a.add (k * R.s + j)) = some v) ∧ q y := by
   intro k hk
   obtain ⟨cs', h1, h2⟩ := hx k (by omega)
   rw [hC] at h1
   obtain ⟨_, hlen, hcell⟩ := World.cells?_some h1
   obtain ⟨y, rfl, hq⟩ := hread _ _ _ h2
   refine ⟨y, fun j v hj => ?_, hq⟩
   have hjl : j < (R.cel y).length := (List.getElem?_eq_some_iff.1 hj).1
   have h4 := hcell j (by rw [R.len] at hjl; omega)
   rw [add_add] at h4
   rw [h4, hj]
  obtain ⟨L, hLl, hL⟩ := list_of_all len key
  obtain ⟨b, off, spot⟩ := a
  refine ⟨_, len, _, L, hcs, hLl, by omega, fun h0 => ?_, fun y hy => ?_⟩
  ·rw [hLl] at h0
   obtain ⟨y0, hy0, hc0, -⟩ := hL 0 h0
   have hz0 := hc0 0 _ (List.getElem?_eq_getElem (by rw [R.len]; exact R.pos))
   have hspot : spot = none := by simpa [Addr.add] using World.cell?_spot hz0
   subst hspot
   have hlt : b < W.heap.size := by
    rcases Nat.lt_or_ge b W.heap.size with hlt | hge
    ·exact hlt
    ·unfold World.cell? at hz0
     rw [show (Addr.add ⟨b, off, none⟩ (0 * R.s + 0)).block = b from by rw [block_add], Array.getElem?_eq_none hge] at hz0
     simp at hz0
   refine ⟨b, off, rfl, hlt, fun j v hj => ?_⟩
   have hjl : j < len * R.s := by
    rw [← hLl, ← R.all_len]
    exact (List.getElem?_eq_some_iff.1 hj).1
   have hs := R.pos
   have hi : j / R.s < len := Nat.div_lt_of_lt_mul (by rw [Nat.mul_comm]; exact hjl)
   obtain ⟨y, hy, hc, -⟩ := hL (j / R.s) hi
   have hr : j % R.s < R.s := Nat.mod_lt _ hs
   have he : j / R.s * R.s + j % R.s = j := by rw [Nat.mul_comm]; exact Nat.div_add_mod _ _
   have h5 := hc (j % R.s) v (by rw [← R.get L (j / R.s) y hy _ hr, he]; exact hj)
   rw [he, Go.WideShapes.add_plain] at h5
   exact h5
  ·obtain ⟨k, hk⟩ := List.getElem?_of_mem hy
   have hkl : k < len := by rw [← hLl]; exact (List.getElem?_eq_some_iff.1 hk).1
   obtain ⟨z, hz, -, hq⟩ := hL k hkl
   rw [hk] at hz
   injection hz with hz
   subst hz
   exact hq
end
section
variable {H : Type} {enc : TypeId × Value → H} {W : World}
end
section
variable {H : Type} {enc : TypeId × Value → H} {P : Program} {w : World} {r : Reach} {b0 base : Nat} {t e : TypeId} {k : IntKind} {spare : Nat → Bool} {held : Bool} {v : Value} {d : DataW H} {ps : List MemPlace}
end
open Go.ChangeShapes Go.WideShapes Go.ChangeAt Go.WideMaps Go.WideElems Go.RowKit Go.Deep Go.Joins
theorem cells4T {cs : List Value} (h : cs.length = 4) : ∃ c0 c1 c2 c3, cs = [c0, c1, c2, c3] := by
 match cs, h with
 | [c0, c1, c2, c3], _ => exact ⟨c0, c1, c2, c3, rfl⟩
theorem cells8T {cs : List Value} (h : cs.length = 8) : ∃ a b : List Value, cs = a ++ b ∧ a.length = 4 ∧ b.length = 4 := ⟨cs.take 4, cs.drop 4, (List.take_append_drop 4 cs).symm, by simp [h], by simp [h]⟩
section
variable {H : Type} {enc : TypeId × Value → H} {W : World}
set_option maxRecDepth 100000 in
theorem open_rateC {fuel : Nat} {cs : List Value} {x : DataW H × List MemPlace} (hf : DataW.trod enc Try.prog W 0 (fun _ => true) true fuel 24 cs = some x) : ∃ a : Rt, cs = rtC a ∧ okT a := by
 obtain ⟨xs, n', -, -, hlen, hxl, hff⟩ := DataW.trod_struct Try.underlying24 hf
 have hC : Try.prog.cellsOf 24 = 4 := by kernel_rfl
 rw [hC] at hlen
 obtain ⟨c0, c1, c2, c3, e7⟩ := cells4T hlen
 have hxl' : xs.length = 4 := hxl
 have hget : ∀ i, i < 4 → ∃ y, xs[i]? = some y := fun i hi => ⟨_, List.getElem?_eq_getElem (by omega)⟩
 have ki : Try.prog.cellsOf 3 = 1 := by kernel_rfl
 have ks : Try.prog.cellsOf 9 = 1 := by kernel_rfl
 have h0 : DataW.trod enc Try.prog W 0 (fun _ => true) true n' 9 ((cs.drop 0).take (Try.prog.cellsOf 9)) = xs[0]? := hff 0 _ rfl
 obtain ⟨y0, e0⟩ := hget 0 (by omega)
 rw [e0, ks, e7] at h0
 have h1 : DataW.trod enc Try.prog W 0 (fun _ => true) true n' 3 ((cs.drop 1).take (Try.prog.cellsOf 3)) = xs[1]? := hff 1 _ rfl
 obtain ⟨y1, e1⟩ := hget 1 (by omega)
 rw [e1, ki, e7] at h1
 have h2 : DataW.trod enc Try.prog W 0 (fun _ => true) true n' 3 ((cs.drop 2).take (Try.prog.cellsOf 3)) = xs[2]? := hff 2 _ rfl
 obtain ⟨y2, e2⟩ := hget 2 (by omega)
 rw [e2, ki, e7] at h2
 have h3 : DataW.trod enc Try.prog W 0 (fun _ => true) true n' 3 ((cs.drop 3).take (Try.prog.cellsOf 3)) = xs[3]? := hff 3 _ rfl
 obtain ⟨y3, e3⟩ := hget 3 (by omega)
 rw [e3, ki, e7] at h3
 obtain ⟨z0, q0, -, w0⟩ := DataW.trod_string Try.underlying9 h0
 have a0 : c0 = .string z0 := by simpa using q0
 obtain ⟨z1, q1, -, w1⟩ := DataW.trod_int Try.underlying3 h1
 have a1 : c1 = .int .i64 z1 := by simpa using q1
 obtain ⟨z2, q2, -, w2⟩ := DataW.trod_int Try.underlying3 h2
 have a2 : c2 = .int .i64 z2 := by simpa using q2
 obtain ⟨z3, q3, -, w3⟩ := DataW.trod_int Try.underlying3 h3
 have a3 : c3 = .int .i64 z3 := by simpa using q3
 subst a0 a1 a2 a3
 exact ⟨((z0, z1, z2), z3), e7, ⟨w0, w1, w2⟩, w3⟩
set_option maxRecDepth 100000 in
theorem open_irate {b0 : Nat} {v : Value} {d : DataW H} {p : List MemPlace} (hval : Value.okWide Try.prog W .any b0 24 v) (h : DataW.Trod enc Try.prog W 0 (fun _ => true) true 24 v d p) :
  ∃ a : Rt, v = rtVl a ∧ okT a := by
 obtain ⟨cs, rfl, hsz⟩ := okWide_struct Try.underlying24 hval
 obtain ⟨fuel, hf⟩ := h
 have hcs : (Value.agg cs).cells.toList = cs.toList := by simp [Value.cells]
 rw [hcs] at hf
 obtain ⟨a, ha, hq⟩ := open_rateC hf
 exact ⟨a, by rw [← Array.toArray_toList (xs := cs), ha]; rfl, hq⟩
def LenT (d : DataW H) (len : Nat) : Prop := d = .nil ∧ len = 0 ∨ ∃ es sp, d = .slice es sp ∧ es.length = len
set_option maxRecDepth 100000 in
theorem open_irates {b0 : Nat} {v : Value} {d : DataW H} {p : List MemPlace} (hval : Value.okWide Try.prog W .any b0 22 v) (h : DataW.Trod enc Try.prog W 0 (fun _ => true) true 22 v d p) :
  ∃ A len c S, v = .slice A len c ∧ S.length = len ∧ LenT d len ∧ RowAt lyT W A S ∧ ∀ s ∈ S, okT s := by
 obtain ⟨a0, len, cap, rfl⟩ := okWide_slice Try.underlying22 hval
 obtain ⟨fuel, hf⟩ := h
 obtain ⟨A, len', c, S, hcs, hl, hm, hr, hq⟩ := open_rowsG lyT Try.underlying22 (by kernel_rfl) okT (fun _ _ _ h => open_rateC h) hf
 simp [Value.cells] at hcs
 obtain ⟨rfl, rfl, rfl⟩ := hcs
 refine ⟨_, _, _, S, rfl, hl, ?_, hr, hq⟩
 rcases open_slice Try.underlying22 hf with ⟨hcs, hx⟩ | ⟨a, len, cap, m, n, D, Pl, hcs, -, hl, hm, hmm, hx, -⟩
 ·simp [Value.cells] at hcs hx
  exact .inl ⟨hx.1, hcs.2.1⟩
 ·simp [Value.cells] at hcs hx
  obtain ⟨rfl, rfl, rfl⟩ := hcs
  exact .inr ⟨_, _, hx.1, by simp⟩
theorem rates_small {ts : List TypeId} {ds : List (DataW H)} (h : (DataW.weightsEach Try.prog ts ds).all (· ≤ reachBytes) = true) {j : Nat} {d : DataW H} (ht : ts[j]? = some 22) (hd : ds[j]? = some d) {len : Nat} (hl : LenT d len) : len ≤ 3518437208780 := by
 rcases hl with ⟨_, rfl⟩ | ⟨es, sp, rfl, rfl⟩
 ·omega
 ·have h1 := sized_slice h ht hd Try.underlying22
  rw [show Try.prog.bytesOf 24 = 40 by kernel_rfl] at h1
  unfold reachBytes at h1
  omega
abbrev rt2V (a b : Rt) : Value := .agg #[.string a.1.1, .int .i64 a.1.2.1, .int .i64 a.1.2.2, .int .i64 a.2, .string b.1.1, .int .i64 b.1.2.1, .int .i64 b.1.2.2, .int .i64 b.2]
set_option maxRecDepth 100000 in
theorem open_irate2 {b0 : Nat} {v : Value} {d : DataW H} {p : List MemPlace} (hval : Value.okWide Try.prog W .any b0 46 v) (h : DataW.Trod enc Try.prog W 0 (fun _ => true) true 46 v d p) :
  ∃ a b : Rt, v = rt2V a b ∧ okT a ∧ okT b := by
 have hct : Try.prog.cellsOf 46 = 8 := by kernel_rfl
 have hce : Try.prog.cellsOf 24 = 4 := by kernel_rfl
 obtain ⟨cs, rfl, hsz, _⟩ : ∃ cs, v = .agg cs ∧ cs.size = Try.prog.cellsOf 46 ∧ Row.okWide Try.prog W .any b0 46 cs := by
  simpa [Value.okWide, Try.underlying46] using hval
 rw [hct] at hsz
 obtain ⟨l⟩ := cs
 obtain ⟨la, lb, rfl, ha, hb⟩ := cells8T hsz
 obtain ⟨fuel, hf⟩ := h
 obtain ⟨xs, m, _, hx, _, hl, hel⟩ := DataW.trod_array Try.underlying46 hf
 match xs, hl, hx, hel with
 | [q0, q1], _, hx, hel =>
  have e0 := hel 0 (by omega)
  have e1 := hel 1 (by omega)
  rw [hce] at e0 e1
  obtain ⟨a, ea, wa⟩ := open_rateC (by simpa [Value.cells, ha] using e0 : DataW.trod enc Try.prog W 0 (fun _ => true) true m 24 la = some q0)
  obtain ⟨b, eb, wb⟩ := open_rateC (by simpa [Value.cells, ha, hb, List.take_of_length_le (Nat.le_of_eq hb)] using e1 : DataW.trod enc Try.prog W 0 (fun _ => true) true m 24 lb = some q1)
  subst ea eb
  exact ⟨a, b, rfl, wa, wb⟩
end
end Go.Proofs.Ytihgnnocagfdeaa
