/- Contracts and the law of GroupFind, part 1: what was proved of each, callees first. -/
import Derived.Deep.RegionHeldLaw
import Derived.Test.YtdfnlakimacbpaaGK6
namespace Go.Proofs.Ytdfnlakimacbpaa
open Go.RowKit
theorem wpAnyH_takeD {P : Program} {md : Region.Mode} {ops : Array Oper} {Q : Exit → Act → World → Prop} {S : World → Prop} {i : Nat} {oi : Oper} {v : Value} {fuel : Nat} {listed : Array Bool} {a : Act} {w : World} (d : Option Tmp) (hi : ops[i]? = some oi) (hd : oi.dst = d)
  (hs : Region.noSelect ops = true) (hf : Region.free md ops listed i = true) (hr : (Region.ready md ops listed).contains i = true)
  (hQ : ∀ c a w, Q (.panic c) (a.put d v) w → Q (.panic c) a w) (hy : YieldsIf P ops S oi v a) (hS : S w)
  (h : wpAnyH P md ops Q S fuel (listed.setIfInBounds i true) (a.put d v) w) : wpAnyH P md ops Q S (fuel + 1) listed a w := by
 subst hd
 exact wpAnyH_take hi hs hf hr hQ hy hS h
set_option maxRecDepth 20000 in
set_option maxHeartbeats 3200000 in
theorem law_grfind (g : Grp) (L : List Acc) (G : List Ent) (nm : ByteArray) (w : World) (hk : GrK w g L G) (hw : GrW g L G) (hmx : g.m ≤ 9223372036854775807) :
  Calls Try.prog 4 #[grpV g, .string nm] w fun e w' => e = .returned (.bool true) ∧ Below w.heap.size w w' := by
 have hB := below_alloc_new (w := w) (.cells #[.string g.cur, .int .i64 g.cy, .int .i64 g.cm, .int .i64 g.cp, .slice g.A g.n g.c, .int .i64 g.r0, .int .i64 g.r1, .int .i64 g.r2, .int .i64 g.r3, .int .i64 g.r4, .int .i64 g.r5, .int .i64 g.r6, .int .i64 g.r7, .int .i64 g.r8, .int .i64 g.r9, .int .i64 g.r10, .int .i64 g.r11, .int .i64 g.r12, .int .i64 g.r13, .int .i64 g.r14, .slice g.E g.m g.d] 29)
 have hG := gb_new w 29 g
 have hk2 := hk.up hB
 have h1 := fun w h => rfew10_any g G w h hk.lg hmx
 have h2 := fun (hm : g.m ≤ 14) w h => gfind_any g G nm w h hk.lg (by omega)
 have h3 := fun (hm : g.m ≤ 14) w h => rfind10_any g G nm w h hk.lg (by omega)
 have h4 := fun (hm : g.m ≤ 14) w h => gcurs_any g G w h hk.lg (by omega) hw.cur (fun e he => (hw.txt e he).2)
 have h5 := fun (hm : g.m ≤ 14) w h => rcurs_any g G w h hk.lg (by omega)
 have hcl := (curL_is (c := g.cur.data.toList) G).2.2
 rw [hk.lg] at hcl
 obtain ⟨X, hX⟩ : ∃ X : Value, X = grpV g := ⟨_, rfl⟩
 rw [← hX] at h1
 simp only [← hX] at h2 h3 h4 h5
 generalize fnE G nm = z at *
 generalize fnQ G nm = q at *
 generalize curL g.cur.data.toList G = U at *
 have h6 := fun (hm : g.m ≤ 14) A c B d w h h' => same10_any A B c d U U w h h' (by omega) (by omega)
 rw [decide_eq_true (show U = U from rfl)] at h6
 have hzz : (z == z) = true := by simp
 have hqq : (q == q) = true := by simp
 obtain ⟨s0, hs0⟩ : ∃ s0, w.heap.size = s0 := ⟨_, rfl⟩
 have hsz : s0 ≤ (w.alloc (.cells #[.string g.cur, .int .i64 g.cy, .int .i64 g.cm, .int .i64 g.cp, .slice g.A g.n g.c, .int .i64 g.r0, .int .i64 g.r1, .int .i64 g.r2, .int .i64 g.r3, .int .i64 g.r4, .int .i64 g.r5, .int .i64 g.r6, .int .i64 g.r7, .int .i64 g.r8, .int .i64 g.r9, .int .i64 g.r10, .int .i64 g.r11, .int .i64 g.r12, .int .i64 g.r13, .int .i64 g.r14, .slice g.E g.m g.d] 29)).heap.size := by simp; omega
 rw [hs0] at hB hG ⊢
 have HX := Lib.hid hX
 have HG := Lib.hid hG
 have HK := Lib.hid hk2
 have HSZ := Lib.hid hsz
 have HFW := Lib.hid h1
 have H2 := Lib.hid h2
 have H3 := Lib.hid h3
 have H4 := Lib.hid h4
 have H5 := Lib.hid h5
 have H6 := Lib.hid h6
 clear hk hw hmx hG hk2 h1 hX hsz h2 h3 h4 h5 h6 hcl
 go_enter Try.func4, Try.ntmps4
 go_upto_if 15 with (first
  | (refine wpList_load_is rfl 29 _ rfl (.pointer (some ⟨s0, 0, none⟩)) rfl X (gb_lV HG.out HX.out) ?_) | (refine wpList_load_if rfl 29 _ rfl (.pointer (some ⟨s0, 0, none⟩)) rfl X (gb_lV HG.out HX.out) ?_) | (refine wp_load_is 29 _ rfl (.pointer (some ⟨s0, 0, none⟩)) rfl X (gb_lV HG.out HX.out) ?_)
  | (go_at_call 8; refine (grawake_any _).mono ?_; rintro e1 w1 ⟨rfl, hb⟩; have hB2 := hB.trans (hb.mono HSZ.out); have HSZ2 := Lib.hid (Nat.le_trans HSZ.out hb.size); have HG2 := Lib.hid (HG.out.up hb); have HK2 := Lib.hid (HK.out.up hb); clear hb hB HSZ HG HK; have hB := hB2; have HSZ := HSZ2; have HG := HG2; have HK := HK2; clear hB2 HSZ2 HG2 HK2)
  | (go_at_call 9; (with_reducible refine (HFW.out _ HK.out.he).mono ?_); rintro e1 w2 ⟨⟨fb, rfl, hfb⟩, hb⟩; have hB2 := hB.trans (hb.mono HSZ.out); have HSZ2 := Lib.hid (Nat.le_trans HSZ.out hb.size); have HG2 := Lib.hid (HG.out.up hb); have HK2 := Lib.hid (HK.out.up hb); clear hb hB HSZ HG HK; have hB := hB2; have HSZ := HSZ2; have HG := HG2; have HK := HK2; clear hB2 HSZ2 HG2 HK2))
 cases fb
 ·go_wp2_with (go_at_call 8; refine (grawake_any _).mono ?_; rintro e1 w1 ⟨rfl, hb⟩; have hB2 := hB.trans (hb.mono HSZ.out); have HSZ2 := Lib.hid (Nat.le_trans HSZ.out hb.size); have HG2 := Lib.hid (HG.out.up hb); have HK2 := Lib.hid (HK.out.up hb); clear hb hB HSZ HG HK; have hB := hB2; have HSZ := HSZ2; have HG := HG2; have HK := HK2; clear hB2 HSZ2 HG2 HK2)
  go_ret
  exact ⟨rfl, hB⟩
 ·have hs := hfb rfl
  have hm := hs.m
  have G2 := Lib.hid (H2.out hm)
  have G3 := Lib.hid (H3.out hm)
  have G4 := Lib.hid (H4.out hm)
  have G5 := Lib.hid (H5.out hm)
  have G6 := Lib.hid (H6.out hm)
  clear H2 H3 H4 H5 H6 hfb hs HFW hm
  go_wp2_with (first
   | (refine wpList_load_is rfl 29 _ rfl (.pointer (some ⟨s0, 0, none⟩)) rfl X (gb_lV HG.out HX.out) ?_) | (refine wpList_load_if rfl 29 _ rfl (.pointer (some ⟨s0, 0, none⟩)) rfl X (gb_lV HG.out HX.out) ?_) | (refine wp_load_is 29 _ rfl (.pointer (some ⟨s0, 0, none⟩)) rfl X (gb_lV HG.out HX.out) ?_)
   | (go_at_call 12; (with_reducible refine (G2.out _ HK.out.he).mono ?_); rintro e1 w3 ⟨rfl, hb⟩; have hB2 := hB.trans (hb.mono HSZ.out); have HSZ2 := Lib.hid (Nat.le_trans HSZ.out hb.size); have HG2 := Lib.hid (HG.out.up hb); have HK2 := Lib.hid (HK.out.up hb); clear hb hB HSZ HG HK; have hB := hB2; have HSZ := HSZ2; have HG := HG2; have HK := HK2; clear hB2 HSZ2 HG2 HK2)
   | (go_at_call 13; (with_reducible refine (G3.out _ HK.out.he).mono ?_); rintro e1 w4 ⟨rfl, hb⟩; have hB2 := hB.trans (hb.mono HSZ.out); have HSZ2 := Lib.hid (Nat.le_trans HSZ.out hb.size); have HG2 := Lib.hid (HG.out.up hb); have HK2 := Lib.hid (HK.out.up hb); clear hb hB HSZ HG HK; have hB := hB2; have HSZ := HSZ2; have HG := HG2; have HK := HK2; clear hB2 HSZ2 HG2 HK2))
  rename World => wr
  refine wp_region_held_drew (S := fun w9 => Below wr.heap.size wr w9) (by kernel_rfl) (dc_drew (Below.refl _ _)) (fun hH => ?_)
  refine wpAnyH_takeD (i := 0) (v := .int .i64 z) (some 29) rfl rfl (by kernel_rfl) (by kernel_rfl) (by kernel_rfl) (fun _ _ _ h => h) (Or.inl ⟨by rfl, fun w9 h9 => by go_simp⟩) hH ?_
  try simp only [Act.put, List.setIfInBounds_toArray, List.set_cons_zero, List.set_cons_succ]
  refine wpAnyH_takeD (i := 1) (v := .int .i64 z) (some 30) rfl rfl (by kernel_rfl) (by kernel_rfl) (by kernel_rfl) (fun _ _ _ h => h) (Or.inl ⟨by rfl, fun w9 h9 => by go_simp⟩) hH ?_
  try simp only [Act.put, List.setIfInBounds_toArray, List.set_cons_zero, List.set_cons_succ]
  refine wpAnyH_takeD (i := 2) (v := .bool true) (some 31) rfl rfl (by kernel_rfl) (by kernel_rfl) (by kernel_rfl) (fun _ _ _ h => h) (Or.inl ⟨by rfl, fun w9 h9 => by go_simp⟩) hH ?_
  try simp only [Act.put, List.setIfInBounds_toArray, List.set_cons_zero, List.set_cons_succ]
  refine wpAnyH_takeD (i := 3) (v := .bool true) (some 32) rfl rfl (by kernel_rfl) (by kernel_rfl) (by kernel_rfl) (fun _ _ _ h => h) (Or.inl ⟨by rfl, fun w9 h9 => by go_simp⟩) hH ?_
  try simp only [Act.put, List.setIfInBounds_toArray, List.set_cons_zero, List.set_cons_succ]
  refine wpAnyH_takeD (i := 4) (v := .bool q) (some 33) rfl rfl (by kernel_rfl) (by kernel_rfl) (by kernel_rfl) (fun _ _ _ h => h) (Or.inl ⟨by rfl, fun w9 h9 => by go_simp⟩) hH ?_
  try simp only [Act.put, List.setIfInBounds_toArray, List.set_cons_zero, List.set_cons_succ]
  refine wpAnyH_takeD (i := 5) (v := .bool q) (some 34) rfl rfl (by kernel_rfl) (by kernel_rfl) (by kernel_rfl) (fun _ _ _ h => h) (Or.inl ⟨by rfl, fun w9 h9 => by go_simp⟩) hH ?_
  try simp only [Act.put, List.setIfInBounds_toArray, List.set_cons_zero, List.set_cons_succ]
  refine wpAnyH_takeD (i := 6) (v := .bool true) (some 35) rfl rfl (by kernel_rfl) (by kernel_rfl) (by kernel_rfl) (fun _ _ _ h => h) (Or.inl ⟨by rfl, fun w9 h9 => by go_simp⟩) hH ?_
  try simp only [Act.put, List.setIfInBounds_toArray, List.set_cons_zero, List.set_cons_succ]
  refine wpAnyH_takeD (i := 7) (v := .bool true) (some 36) rfl rfl (by kernel_rfl) (by kernel_rfl) (by kernel_rfl) (fun _ _ _ h => h) (Or.inl ⟨by rfl, fun w9 h9 => by go_simp⟩) hH ?_
  try simp only [Act.put, List.setIfInBounds_toArray, List.set_cons_zero, List.set_cons_succ]
  refine wpAnyH_takeD (i := 8) (v := .bool true) (some 37) rfl rfl (by kernel_rfl) (by kernel_rfl) (by kernel_rfl) (fun _ _ _ h => h) (Or.inl ⟨by rfl, fun w9 h9 => by go_simp⟩) hH ?_
  try simp only [Act.put, List.setIfInBounds_toArray, List.set_cons_zero, List.set_cons_succ]
  refine wpAnyH_takeD (i := 9) (v := X) (some 38) rfl rfl (by kernel_rfl) (by kernel_rfl) (by kernel_rfl) (fun _ _ _ h => h) (yieldsIf_load_is (by rfl) 29 _ rfl (.pointer (some ⟨s0, 0, none⟩)) rfl X (fun w9 h9 => gb_lV (HG.out.up h9) HX.out)) hH ?_
  try simp only [Act.put, List.setIfInBounds_toArray, List.set_cons_zero, List.set_cons_succ]
  refine wpAnyH_takeD (i := 11) (v := X) (some 40) rfl rfl (by kernel_rfl) (by kernel_rfl) (by kernel_rfl) (fun _ _ _ h => h) (yieldsIf_load_is (by rfl) 29 _ rfl (.pointer (some ⟨s0, 0, none⟩)) rfl X (fun w9 h9 => gb_lV (HG.out.up h9) HX.out)) hH ?_
  try simp only [Act.put, List.setIfInBounds_toArray, List.set_cons_zero, List.set_cons_succ]
  refine wpAnyH_ready (rs := [10]) (by kernel_rfl) (by simp) ?_
  refine AllReadyH.cons rfl (fun K hK => ?_) AllReadyH.nil
  go_simp
  go_wp2_with (go_at_call 15; refine (G4.out _ (HK.out.up hH).he).mono ?_; rintro e1 v4 ⟨⟨x4, rfl, A4, c4, rfl, hs4⟩, hb4⟩; have hB4 : Below wr.heap.size wr v4 := below_more hH hb4)
  refine hK.out _ _ hB4 (fun hH4 => ?_)
  clear hK K
  try simp only [Act.put, List.setIfInBounds_toArray, List.set_cons_zero, List.set_cons_succ]
  refine wpAnyH_ready (rs := [12]) (by kernel_rfl) (by simp) ?_
  refine AllReadyH.cons rfl (fun K hK => ?_) AllReadyH.nil
  go_simp
  go_wp2_with (go_at_call 16; refine (G5.out _ (HK.out.up hH4).he).mono ?_; rintro e1 v5 ⟨⟨x5, rfl, A5, c5, rfl, hs5⟩, hb5⟩; have hB5 : Below wr.heap.size wr v5 := below_more hH4 hb5)
  refine hK.out _ _ hB5 (fun hH5 => ?_)
  clear hK K
  try simp only [Act.put, List.setIfInBounds_toArray, List.set_cons_zero, List.set_cons_succ]
  refine wpAnyH_ready (rs := [13]) (by kernel_rfl) (by simp) ?_
  refine AllReadyH.cons rfl (fun K hK => ?_) AllReadyH.nil
  go_simp
  go_wp2_with (go_at_call 14; refine (G6.out _ _ _ _ _ (hs4.up hb5) hs5).mono ?_; rintro e1 v7 ⟨rfl, hb7⟩; have hB7 : Below wr.heap.size wr v7 := below_more hB5 hb7)
  refine hK.out _ _ hB7 (fun hH7 => ?_)
  clear hK K
  try simp only [Act.put, List.setIfInBounds_toArray, List.set_cons_zero, List.set_cons_succ]
  refine wpAnyH_takeD (i := 14) (v := .bool true) (some 43) rfl rfl (by kernel_rfl) (by kernel_rfl) (by kernel_rfl) (fun _ _ _ h => h) (Or.inl ⟨by rfl, fun w9 h9 => by go_simp⟩) hH7 ?_
  try simp only [Act.put, List.setIfInBounds_toArray, List.set_cons_zero, List.set_cons_succ]
  refine wpAnyH_ready (rs := [15]) (by kernel_rfl) (by simp) ?_
  refine AllReadyH.cons rfl (fun K hK => ?_) AllReadyH.nil
  go_simp
  refine hK.out _ _ hB7 (fun hH8 => ?_)
  clear hK K
  try simp only [Act.put, List.setIfInBounds_toArray, List.set_cons_zero, List.set_cons_succ]
  refine wpAnyH_done (by kernel_rfl) ?_ _
  go_wp2_with fail
  go_ret
  exact ⟨rfl, hB.trans (hB7.mono HSZ.out)⟩
end Go.Proofs.Ytdfnlakimacbpaa
