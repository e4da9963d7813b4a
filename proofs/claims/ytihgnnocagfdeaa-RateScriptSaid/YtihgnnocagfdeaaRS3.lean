/- Contracts of the functions that the statements reach, part 3: what was proved of each, callees first. -/
import Derived.SizedLaws
import Derived.Test.YtihgnnocagfdeaaRS2
namespace Go.Proofs.Ytihgnnocagfdeaa
open Go.RowKit Go.Sort
def TP (w : World) (B : Nat) (P : Value) (j : TD) (H : List Rt) : Prop := j.p = P ∧ TK w B j H
section
variable {w w' : World} {B : Nat} {P : Value} {j : TD} {H : List Rt}
theorem TP.up (h : TP w B P j H) (hb : Below w.heap.size w w') : TP w' B P j H := ⟨h.1, h.2.up hb⟩
theorem TP.only {S : Nat → Prop} (h : TP w B P j H) (hb : Only S w w') (hS : ∀ k, j.own H.length k → ¬ S k) : TP w' B P j H := ⟨h.1, h.2.only hb hS⟩
end
structure GoP (w w' : World) (B : Nat) (P : Value) (j : TD) (H : List Rt) (k : TD) (G : List Rt) : Prop where
 tp : TP w' B P k G
 mv : Moved w w' j H.length k G.length
theorem GoP.below {w w' : World} {B : Nat} {P : Value} {j k : TD} {H G : List Rt} (h : GoP w w' B P j H k G) (hj : TP w B P j H) (hB : B ≤ w.heap.size) : Below B w w' := h.mv.below (fun _ hx => (hj.2.own_lt hx).1) hB
theorem GoP.g {w w' : World} {B : Nat} {P : Value} {j k : TD} {H G : List Rt} (h : GoP w w' B P j H k G) : k.g = j.g := h.mv.g
theorem GoP.of {w w' : World} {B : Nat} {P : Value} {j : TD} {H G : List Rt} (hj : TP w B P j H) (h : SetG w B j H G w') : ∃ k, GoP w w' B P j H k G := by
 obtain ⟨k, h1, h2⟩ := h
 exact ⟨k, ⟨by rw [← hj.1]; unfold TD.p; rw [h2.b], h1⟩, h2⟩
theorem setP_any {P : Value} {j : TD} {H : List Rt} (x : Rt) {B : Nat} {w : World} (hj : TP w B P j H) (hBw : B ≤ w.heap.size) (hok : okR x.1) (hn : H.length ≤ 900) (E : Int) (hE : (if rtP j.g x then (0 : Int) else 1) = E) : Calls Try.prog 22 #[P, rtVl x] w fun e w' => e = .returned (.int .i64 E) ∧ ∃ k, GoP w w' B P j H k (adR j.g H x) := by
 have h1 := set_any j H x B w hj.2 hBw hok hn
 rw [hj.1] at h1
 refine h1.mono fun e w' h2 => ⟨?_, GoP.of hj h2.2.moved⟩
 rw [← hE]; exact h2.1
theorem getP_any {P : Value} {j : TD} {H : List Rt} (q : RK) {B : Nat} {w : World} (hj : TP w B P j H) (hok : okR q) : Calls Try.prog 27 #[P, .string q.1, .int .i64 q.2.1, .int .i64 q.2.2] w fun e w' => e = .returned (.tuple #[.int .i64 ((tbF H q).getD 0), .bool (tbF H q).isSome]) ∧ w = w' := by
 have h1 := get_any j H q B w hj.2 hok
 rw [hj.1] at h1
 exact h1
theorem hisP_any {P : Value} {j : TD} {H : List Rt} {B : Nat} {w : World} (hj : TP w B P j H) (hn : H.length ≤ 900) : Calls Try.prog 26 #[P] w fun e w' => RowQ w H e w' ∧ Below w.heap.size w w' := by
 have h1 := his_any j H B w hj.2 (by omega)
 rw [hj.1] at h1
 exact h1
theorem listP_any {P : Value} {j : TD} {H : List Rt} {B : Nat} {w : World} (hj : TP w B P j H) (hn : H.length ≤ 900) : Calls Try.prog 28 #[P] w fun e w' => RowQ w (rtL H) e w' ∧ Below w.heap.size w w' := by
 have h1 := list16_any j H B w hj.2 hn
 rw [hj.1] at h1
 exact h1
def NwT (w : World) (g : ByteArray) (e : Ending) (w' : World) : Prop := if curB g = true then ∃ (b : Nat) (j : TD), e = .returned (.tuple #[.pointer (some ⟨b, 0, none⟩), .int .i64 0]) ∧ TP w' w.heap.size (.pointer (some ⟨b, 0, none⟩)) j [] ∧ j.g = g else e = .returned (.tuple #[.pointer none, .int .i64 1])
theorem nwT_any (g : ByteArray) (w : World) : Calls Try.prog 19 #[.string g] w fun e w' => NwT w g e w' ∧ Below w.heap.size w w' := by
 refine (new_any16 g w).mono fun e w' h => ⟨?_, h.2⟩
 have h1 := h.1
 unfold NewT at h1
 unfold NwT
 by_cases hc : curB g = true
 ·rw [if_pos hc] at h1 ⊢
  obtain ⟨b, m, h2, h3⟩ := h1
  exact ⟨b, _, h2, ⟨rfl, h3⟩, rfl⟩
 ·rw [if_neg hc] at h1 ⊢
  exact h1
abbrev eurT : ByteArray := ⟨#[69, 85, 82]⟩
abbrev usd1 : Rt := ((⟨#[85, 83, 68]⟩, 1, 20000), 920000)
abbrev usd2 : Rt := ((⟨#[85, 83, 68]⟩, 1, 20000), 930000)
theorem usd_ok : okR (⟨#[85, 83, 68]⟩, 1, 20000) := ⟨by decide, by decide, by decide⟩
theorem eur_ok : curB eurT = true := by decide +kernel
theorem usd1_ok : rtP eurT usd1 = true := by decide +kernel
theorem usd2_ok : rtP eurT usd2 = true := by decide +kernel
theorem usd_len : (rtL [usd1, usd2]).length = 1 := by decide +kernel
theorem usd_get : (tbF [usd1, usd2] (⟨#[85, 83, 68]⟩, 1, 20000)) = some 930000 := by decide +kernel
set_option maxRecDepth 100000 in
set_option maxHeartbeats 3200000 in
theorem awake16_any (w : World) : Calls Try.prog 11 #[] w fun e w' => e = .returned (.bool true) ∧ Below w.heap.size w w' := by
 have HNW : Hid (Calls Try.prog 19 #[.string eurT] w fun e w' => (∃ (b : Nat) (j : TD), e = .returned (.tuple #[.pointer (some ⟨b, 0, none⟩), .int .i64 0]) ∧ TP w' w.heap.size (.pointer (some ⟨b, 0, none⟩)) j [] ∧ j.g = eurT) ∧ Below w.heap.size w w') := Lib.hid ((nwT_any eurT w).mono fun e w' h => ⟨by have h1 := h.1; unfold NwT at h1; rw [if_pos eur_ok] at h1; exact h1, h.2⟩)
 have HS1 : Hid (∀ (P : Value) (j : TD) (W : World), TP W w.heap.size P j [] → j.g = eurT → w.heap.size ≤ W.heap.size → Calls Try.prog 22 #[P, .agg #[.string ⟨#[85, 83, 68]⟩, .int .i64 1, .int .i64 20000, .int .i64 920000]] W fun e w' => e = .returned (.int .i64 0) ∧ ∃ k, GoP W w' w.heap.size P j [] k [usd1]) := Lib.hid (fun P j W hj hg hB => by
  have h1 := setP_any usd1 hj hB usd_ok (by simp) 0 (by rw [hg, usd1_ok]; rfl)
  rw [show adR j.g [] usd1 = [usd1] by unfold adR; rw [hg, usd1_ok]; rfl] at h1
  exact h1)
 have HS2 : Hid (∀ (P : Value) (j : TD) (W : World), TP W w.heap.size P j [usd1] → j.g = eurT → w.heap.size ≤ W.heap.size → Calls Try.prog 22 #[P, .agg #[.string ⟨#[85, 83, 68]⟩, .int .i64 1, .int .i64 20000, .int .i64 930000]] W fun e w' => e = .returned (.int .i64 0) ∧ ∃ k, GoP W w' w.heap.size P j [usd1] k [usd1, usd2]) := Lib.hid (fun P j W hj hg hB => by
  have h1 := setP_any usd2 hj hB usd_ok (by simp) 0 (by rw [hg, usd2_ok]; rfl)
  rw [show adR j.g [usd1] usd2 = [usd1, usd2] by unfold adR; rw [hg, usd2_ok]; rfl] at h1
  exact h1)
 have HGT : Hid (∀ (P : Value) (j : TD) (W : World), TP W w.heap.size P j [usd1, usd2] → Calls Try.prog 27 #[P, .string ⟨#[85, 83, 68]⟩, .int .i64 1, .int .i64 20000] W fun e w' => e = .returned (.tuple #[.int .i64 930000, .bool true]) ∧ W = w') := Lib.hid (fun P j W hj => by
  have h1 := getP_any (⟨#[85, 83, 68]⟩, 1, 20000) hj usd_ok
  rw [usd_get] at h1
  exact h1)
 have HLS : Hid (∀ (P : Value) (j : TD) (W : World), TP W w.heap.size P j [usd1, usd2] → Calls Try.prog 28 #[P] W fun e w' => (∃ A c, e = .returned (.slice A 1 c)) ∧ Below W.heap.size W w') := Lib.hid (fun P j W hj => (listP_any hj (by simp)).mono fun e w' h => ⟨by obtain ⟨A, c, h1, _⟩ := h.1; rw [usd_len] at h1; exact ⟨A, c, h1⟩, h.2⟩)
 have HHS : Hid (∀ (P : Value) (j : TD) (W : World), TP W w.heap.size P j [usd1, usd2] → Calls Try.prog 26 #[P] W fun e w' => (∃ A c, e = .returned (.slice A 2 c)) ∧ Below W.heap.size W w') := Lib.hid (fun P j W hj => (hisP_any hj (by simp)).mono fun e w' h => ⟨by obtain ⟨A, c, h1, _⟩ := h.1; exact ⟨A, c, h1⟩, h.2⟩)
 have HM1 : Hid True := Lib.hid trivial
 go_enter Try.func11, Try.ntmps11
 go_wp2_with (first
  | (go_at_call 19; refine HNW.out.mono ?_; rintro e w1 ⟨⟨b, j, rfl, hj, hg⟩, hb⟩; have HJ := Lib.hid hj; have HG := Lib.hid hg; have HB := Lib.hid hb; clear hj hg hb)
  | (clear HM1; go_at_call 22; refine (HS1.out _ _ _ HJ.out HG.out HB.out.size).mono ?_; rintro e w2 ⟨rfl, k, hm⟩; have HJ1 := Lib.hid hm.tp; have HG1 := Lib.hid (hm.g.trans HG.out); have HB1 := Lib.hid (HB.out.trans (hm.below HJ.out HB.out.size)); clear hm)
  | (go_at_call 22; refine (HS2.out _ _ _ HJ1.out HG1.out HB1.out.size).mono ?_; rintro e w3 ⟨rfl, k2, hm⟩; have HJ2 := Lib.hid hm.tp; have HB2 := Lib.hid (HB1.out.trans (hm.below HJ1.out HB1.out.size)); clear hm)
  | (go_at_call 27; refine (HGT.out _ _ _ HJ2.out).mono ?_; rintro e w4 ⟨rfl, rfl⟩)
  | (go_at_call 28; refine (HLS.out _ _ _ HJ2.out).mono ?_; rintro e w5 ⟨⟨A5, c5, rfl⟩, hb⟩; have HB5 := Lib.hid hb; have HJ5 := Lib.hid (HJ2.out.up hb); clear hb)
  | (go_at_call 26; refine (HHS.out _ _ _ HJ5.out).mono ?_; rintro e w6 ⟨⟨A6, c6, rfl⟩, hb⟩; have HB6 := Lib.hid hb; clear hb))
 go_ret
 exact ⟨rfl, (HB2.out.trans (HB5.out.mono HB2.out.size)).trans (HB6.out.mono (Nat.le_trans HB2.out.size HB5.out.size))⟩
open Go.RowKit
theorem wp_store_wh {P : Program} {o : Oper} {a : Act} {w : World} {K : Act → World → Prop} {Q : Exit → Act → World → Prop} (ty : TypeId) (x y : Operand) (hop : o.op = .store ty x y)
  (b : Nat) (hx : a.eval x = .pointer (some ⟨b, 0, none⟩)) (t : TypeId) (cs vs : List Value) (hy : a.eval y = .agg vs.toArray) (hw : Wh t w b cs) (hl : vs.length = cs.length)
  (hi : (P.info? ty).map (·.size) = some vs.toArray.size) (h1 : vs.toArray.all (·.oneCell') = true)
  (h : ∀ W, Hid (Wh t W b vs) → Hid (Only (fun k => k = b) w W) → W.heap.size = w.heap.size → K (a.put o.dst undef) W) : Oper.wp P o a w K Q :=
 wp_store_mid ty x y hop b 0 vs.toArray hx hy (hw.there (by simp [hl])) hi h1 (h _ (Lib.hid (hw.put vs hl)) (Lib.hid (Only.setCells (S := fun k => k = b) rfl vs 0 w)) (by
  have : ∀ (vs : List Value) (o : Nat) (w : World), (w.setCells b o vs).heap.size = w.heap.size := by
   intro vs
   induction vs with
   | nil => intro o w; rfl
   | cons v r ih => intro o w; rw [World.setCells, ih]; exact World.size_setCell _ _ _
  exact this _ _ _))
open Go.RowKit Go.Sort
abbrev refV (g : ByteArray) (h l : Value) : Value := .agg #[.string g, h, l]
def rfz : List Value := [.string ⟨#[]⟩, .slice none 0 0, .slice none 0 0]
set_option maxRecDepth 100000 in
set_option maxHeartbeats 3200000 in
theorem rnew16_any (g : ByteArray) (w : World) (hg : g.size ≤ maxLen) : Calls Try.prog 20 #[.string g] w fun e w' => e = .returned (.tuple #[if curB g = true then refV g (.slice none 0 0) (.slice none 0 0) else refV ⟨#[]⟩ (.slice none 0 0) (.slice none 0 0), .int .i64 (if curB g = true then 0 else 1)]) ∧ Below w.heap.size w w' := by
 obtain ⟨s0, hs0⟩ : ∃ s0, w.heap.size = s0 := ⟨_, rfl⟩
 obtain ⟨w2, hw2⟩ : ∃ w2, w.alloc (.cells #[.string ⟨#[]⟩, .slice none 0 0, .slice none 0 0] 36) = w2 := ⟨_, rfl⟩
 have HV : Hid (Wh 36 w2 s0 rfz) := Lib.hid (by rw [← hw2, ← hs0]; exact Wh.new w _ _)
 have HB2 : Hid (Below w.heap.size w w2) := Lib.hid (by rw [← hw2]; exact below_alloc_new _)
 have HS0 := Lib.hid hs0
 have HCU : Hid (∀ W, Calls Try.prog 16 #[.string g] W fun e w' => e = .returned (.bool (curB g)) ∧ W = w') := Lib.hid (fun W => rtcurR_any g W hg)
 have HBZ : Hid (∀ W, (Instr.build 36 #[]).run Try.prog W = .ok (refV ⟨#[]⟩ (.slice none 0 0) (.slice none 0 0)) W) := Lib.hid (fun W => run_build W 36 _ _ (by kernel_rfl))
 have HBG : Hid (∀ W, (Instr.build 36 #[(0, .string g)]).run Try.prog W = .ok (refV g (.slice none 0 0) (.slice none 0 0)) W) := Lib.hid (fun W => run_build W 36 _ _ (by kernel_rfl))
 clear hg
 obtain ⟨C, hC⟩ : ∃ C, curB g = C := ⟨_, rfl⟩
 rw [hC] at HCU ⊢
 clear hC
 have hbz := HBZ.out
 have hbg := HBG.out
 cases C
 ·go_enter Try.func20, Try.ntmps20
  go_wp2_with (first
   | (go_at_call 16; refine (HCU.out _).mono ?_; rintro r w3 ⟨rfl, rfl⟩)
   | (refine wpList_store_wh rfl 36 _ _ rfl s0 rfl 36 rfz rfz rfl HV.out rfl (by kernel_rfl) (by kernel_rfl) ?_; intro w8 hr8 ho8 hz8; have HR8 := Lib.hid hr8.out; have HE8 : Hid (Below w.heap.size w w8) := Lib.hid (HB2.out.trans (ho8.out.below (fun k e => by have := HS0.out; omega) HB2.out.size)); clear hr8 ho8 hz8))
  obtain ⟨z0, z1, z2⟩ : w8.cell? ⟨s0, 0, none⟩ = some (.string ⟨#[]⟩) ∧ w8.cell? ⟨s0, 1, none⟩ = some (.slice none 0 0) ∧ w8.cell? ⟨s0, 2, none⟩ = some (.slice none 0 0) := ⟨HR8.out.at 0 _ rfl, HR8.out.at 1 _ rfl, HR8.out.at 2 _ rfl⟩
  exact bodyPost_ret (v := .tuple #[refV ⟨#[]⟩ (.slice none 0 0) (.slice none 0 0), .int .i64 1]) (by simp [results, Try.results20, go_sem, z0, z1, z2]) rfl ⟨rfl, by first | exact HE8.out | (rw [← HS0.out]; exact HE8.out)⟩
 ·go_enter Try.func20, Try.ntmps20
  go_wp2_with (first
   | (go_at_call 16; refine (HCU.out _).mono ?_; rintro r w3 ⟨rfl, rfl⟩)
   | (refine wpList_store_wh rfl 36 _ _ rfl s0 rfl 36 rfz [.string g, .slice none 0 0, .slice none 0 0] rfl HV.out rfl (by kernel_rfl) (by kernel_rfl) ?_; intro w8 hr8 ho8 hz8; have HR8 := Lib.hid hr8.out; have HE8 : Hid (Below w.heap.size w w8) := Lib.hid (HB2.out.trans (ho8.out.below (fun k e => by have := HS0.out; omega) HB2.out.size)); clear hr8 ho8 hz8))
  obtain ⟨z0, z1, z2⟩ : w8.cell? ⟨s0, 0, none⟩ = some (.string g) ∧ w8.cell? ⟨s0, 1, none⟩ = some (.slice none 0 0) ∧ w8.cell? ⟨s0, 2, none⟩ = some (.slice none 0 0) := ⟨HR8.out.at 0 _ rfl, HR8.out.at 1 _ rfl, HR8.out.at 2 _ rfl⟩
  exact bodyPost_ret (v := .tuple #[refV g (.slice none 0 0) (.slice none 0 0), .int .i64 0]) (by simp [results, Try.results20, go_sem, z0, z1, z2]) rfl ⟨rfl, by first | exact HE8.out | (rw [← HS0.out]; exact HE8.out)⟩
theorem rowRt {W : World} {B n c : Nat} {A : Option Addr} {M : List Rt} (h : OwnR lyT 24 W B (.slice A n c) M) : RowAt lyT W A M := by
 obtain ⟨A5, c5, e5, h5, _⟩ := h.reads
 cases e5
 exact h5
def RowFt (M : List Rt) (v : Value) (w : World) : Prop := ∃ A c, v = .slice A M.length c ∧ RowAt lyT w A M
def rowFt (M : List Rt) : AK.Fact Below0 := ⟨RowFt M, fun _ _ _ hb ⟨A, c, h1, h2⟩ => ⟨A, c, h1, h2.up hb⟩⟩
def rtsaL (s0 : Nat) (P : Value) (A1 A2 : Option Addr) (c1 c2 : Nat) (H R : List Rt) : List (Nat × AK.Fact (Below0)) := [(5, AK.Fact.is (P)), (6, rowFt R), (7, AK.Fact.is (.pointer (some ⟨s0, 2, none⟩))), (8, AK.Fact.is (.slice A2 R.length c2)), (9, AK.Fact.is (.bool true)), (10, AK.Fact.is (.bool true)), (11, AK.Fact.is (P)), (12, rowFt H), (13, AK.Fact.is (.pointer (some ⟨s0, 1, none⟩))), (14, AK.Fact.is (.slice A1 H.length c1)), (15, AK.Fact.is (.bool true)), (16, AK.Fact.is (.bool true)), (4, AK.Fact.is (.bool true))]
set_option maxRecDepth 100000 in
set_option maxHeartbeats 3200000 in
theorem same16_any (P : Value) (j : TD) (H R : List Rt) (B : Nat) (g : ByteArray) (A1 A2 : Option Addr) (c1 c2 : Nat) (w : World) (hj : TP w B P j H) (hn : H.length ≤ 900) (hR : rtL H = R) (h1 : RowAt lyT w A1 H) (h2 : RowAt lyT w A2 R) : Calls Try.prog 23 #[P, refV g (.slice A1 H.length c1) (.slice A2 R.length c2)] w fun e w' => e = .returned (.bool true) ∧ Below w.heap.size w w' := by
 obtain ⟨s0, hs0⟩ : ∃ s0, w.heap.size = s0 := ⟨_, rfl⟩
 obtain ⟨w2, hw2⟩ : ∃ w2, w.alloc (.cells #[.string g, .slice A1 H.length c1, .slice A2 R.length c2] 36) = w2 := ⟨_, rfl⟩
 have HXB : Hid (Wh 36 w2 s0 [.string g, .slice A1 H.length c1, .slice A2 R.length c2]) := Lib.hid (by rw [← hw2, ← hs0]; exact Wh.new w _ _)
 have HB2 : Hid (Below w.heap.size w w2) := Lib.hid (by rw [← hw2]; exact below_alloc_new _)
 have HS0 := Lib.hid hs0
 have HR1 := Lib.hid (h1.up HB2.out)
 have HR2 := Lib.hid (h2.up HB2.out)
 have HRN : Hid (R.length ≤ 900) := Lib.hid (by rw [← hR]; have h1 := rtL_len H; omega)
 have HT := Lib.hid (hj.up HB2.out)
 have HN := Lib.hid hn
 have HLI : Hid (∀ W, Below w2.heap.size w2 W → Calls Try.prog 28 #[P] W fun e w' => (∃ A4 c4, e = .returned (.slice A4 R.length c4) ∧ RowAt lyT w' A4 R) ∧ Below W.heap.size W w') := Lib.hid (fun W hb => by
  have h2 := listP_any (HT.out.up hb) HN.out
  rw [hR] at h2
  refine h2.mono fun e w' h1 => ⟨?_, h1.2⟩
  obtain ⟨A4, c4, e4, ho⟩ := h1.1
  exact ⟨A4, c4, e4, rowRt ho⟩)
 have HHI : Hid (∀ W, Below w2.heap.size w2 W → Calls Try.prog 26 #[P] W fun e w' => (∃ A4 c4, e = .returned (.slice A4 H.length c4) ∧ RowAt lyT w' A4 H) ∧ Below W.heap.size W w') := Lib.hid (fun W hb => by
  refine (hisP_any (HT.out.up hb) HN.out).mono fun e w' h1 => ⟨?_, h1.2⟩
  obtain ⟨A4, c4, e4, ho⟩ := h1.1
  exact ⟨A4, c4, e4, rowRt ho⟩)
 have HSR : Hid (∀ A4 c4 A6 c6 W, RowAt lyT W A4 R → RowAt lyT W A6 R → Calls Try.prog 25 #[.slice A4 R.length c4, .slice A6 R.length c6] W fun e w' => e = .returned (.bool true) ∧ Below W.heap.size W w') := Lib.hid (fun A4 c4 A6 c6 W h h2 => by
  have h1 := rsame16_any A4 A6 c4 c6 R R W h h2 (by have := HRN.out; omega) (by have := HRN.out; omega)
  rw [decide_eq_true rfl] at h1
  exact h1)
 have HSH : Hid (∀ A4 c4 A6 c6 W, RowAt lyT W A4 H → RowAt lyT W A6 H → Calls Try.prog 25 #[.slice A4 H.length c4, .slice A6 H.length c6] W fun e w' => e = .returned (.bool true) ∧ Below W.heap.size W w') := Lib.hid (fun A4 c4 A6 c6 W h h2 => by
  have h1 := rsame16_any A4 A6 c4 c6 H H W h h2 (by have := HN.out; omega) (by have := HN.out; omega)
  rw [decide_eq_true rfl] at h1
  exact h1)
 clear hj hn hR h1 h2
 go_enter Try.func23, Try.ntmps23
 go_upto_region 1 with fail
 refine AK.region_facts (Rp := Below0) (Kp := Below0) (rtsaL s0 P A1 A2 c1 c2 H R) (fun _ _ W => Below w2.heap.size w2 W) [[], [5], [], [7], [6, 8], [9], [10], [11, 10], [10], [13, 10], [12, 14, 10], [10, 15], [16]] [] [[]] [0, 0, 0, 0, 0, 0, 0, 0, 0, 0, 0, 0, 0] [0, 0, 0, 0, 0, 0, 0, 0, 0, 0, 0, 0, 0] [] (fun u => by simp only [rtsaL, AK.temps, List.map_cons, List.map_nil, fillL, List.setIfInBounds_toArray, List.set_cons_zero, List.set_cons_succ]; rfl) (by kernel_rfl) (by kernel_rfl) (fun _ _ h => h.size) (fun _ _ h => h) (fun _ _ _ _ hb h => h.trans (hb.mono h.size)) (dc_drew (Below.refl _ _)) ?_ ?_
 ·refine AK.sc (lim := 0) (lo := 0) rfl rfl rfl rfl ?_ ?_
  ·intro k_ u w_ hk_ hl_ hJ hF K hK
   clear hF
   go_simp
   exact hK.out _ _ (Below.refl _ _) (rfl) trivial
  refine AK.sc (lim := 0) (lo := 0) rfl rfl rfl rfl ?_ ?_
  ·intro k_ u w_ hk_ hl_ hJ hF K hK
   have h5 : u 5 = P := AK.facts_get hF 5 (by simp)
   clear hF
   simp only [h5] at hK ⊢
   clear h5
   go_simp
   refine (HLI.out _ hJ).mono ?_
   rintro e w6 ⟨⟨A4, c4, rfl, hr⟩, hb6⟩
   exact hK.out _ _ hb6 ⟨A4, c4, rfl, hr⟩ trivial
  refine AK.sc (lim := 0) (lo := 0) rfl rfl rfl rfl ?_ ?_
  ·intro k_ u w_ hk_ hl_ hJ hF K hK
   clear hF
   go_simp
   exact hK.out _ _ (Below.refl _ _) (rfl) trivial
  refine AK.sc (lim := 0) (lo := 0) rfl rfl rfl rfl ?_ ?_
  ·intro k_ u w_ hk_ hl_ hJ hF K hK
   have h7 : u 7 = .pointer (some ⟨s0, 2, none⟩) := AK.facts_get hF 7 (by simp)
   clear hF
   simp only [h7] at hK ⊢
   clear h7
   have c2_ := (HXB.out.up hJ).at 2 _ rfl
   go_simp
   exact hK.out _ _ (Below.refl _ _) (rfl) trivial
  refine AK.sc (lim := 0) (lo := 0) rfl rfl rfl rfl ?_ ?_
  ·intro k_ u w_ hk_ hl_ hJ hF K hK
   have h6 : RowFt R (u 6) w_ := AK.facts_get hF 6 (by simp)
   have h8 : u 8 = .slice A2 R.length c2 := AK.facts_get hF 8 (by simp)
   clear hF
   obtain ⟨A6, c6, h6, r6⟩ := h6
   simp only [h6, h8] at hK ⊢
   clear h6 h8
   go_simp
   refine (HSR.out _ _ _ _ _ r6 (HR2.out.up hJ)).mono ?_
   rintro e w6 ⟨rfl, hb6⟩
   exact hK.out _ _ hb6 (rfl) trivial
  refine AK.sc (lim := 0) (lo := 0) rfl rfl rfl rfl ?_ ?_
  ·intro k_ u w_ hk_ hl_ hJ hF K hK
   have h9 : u 9 = .bool true := AK.facts_get hF 9 (by simp)
   clear hF
   simp only [h9] at hK ⊢
   clear h9
   go_simp
   exact hK.out _ _ (Below.refl _ _) (rfl) trivial
  refine AK.sc (lim := 0) (lo := 0) rfl rfl rfl rfl ?_ ?_
  ·intro k_ u w_ hk_ hl_ hJ hF K hK
   have h10 : u 10 = .bool true := AK.facts_get hF 10 (by simp)
   clear hF
   simp only [h10] at hK ⊢
   clear h10
   go_simp
   exact hK.out _ _ (Below.refl _ _) (rfl) trivial
  refine AK.sc (lim := 0) (lo := 0) rfl rfl rfl rfl ?_ ?_
  ·intro k_ u w_ hk_ hl_ hJ hF K hK
   have h11 : u 11 = P := AK.facts_get hF 11 (by simp)
   have h10 : u 10 = .bool true := AK.facts_get hF 10 (by simp)
   clear hF
   simp only [h11, h10] at hK ⊢
   clear h11 h10
   go_simp
   refine (HHI.out _ hJ).mono ?_
   rintro e w6 ⟨⟨A4, c4, rfl, hr⟩, hb6⟩
   exact hK.out _ _ hb6 ⟨A4, c4, rfl, hr⟩ trivial
  refine AK.sc (lim := 0) (lo := 0) rfl rfl rfl rfl ?_ ?_
  ·intro k_ u w_ hk_ hl_ hJ hF K hK
   have h10 : u 10 = .bool true := AK.facts_get hF 10 (by simp)
   clear hF
   simp only [h10] at hK ⊢
   clear h10
   go_simp
   exact hK.out _ _ (Below.refl _ _) (rfl) trivial
  refine AK.sc (lim := 0) (lo := 0) rfl rfl rfl rfl ?_ ?_
  ·intro k_ u w_ hk_ hl_ hJ hF K hK
   have h13 : u 13 = .pointer (some ⟨s0, 1, none⟩) := AK.facts_get hF 13 (by simp)
   have h10 : u 10 = .bool true := AK.facts_get hF 10 (by simp)
   clear hF
   simp only [h13, h10] at hK ⊢
   clear h13 h10
   have c1_ := (HXB.out.up hJ).at 1 _ rfl
   go_simp
   exact hK.out _ _ (Below.refl _ _) (rfl) trivial
  refine AK.sc (lim := 0) (lo := 0) rfl rfl rfl rfl ?_ ?_
  ·intro k_ u w_ hk_ hl_ hJ hF K hK
   have h12 : RowFt H (u 12) w_ := AK.facts_get hF 12 (by simp)
   have h14 : u 14 = .slice A1 H.length c1 := AK.facts_get hF 14 (by simp)
   have h10 : u 10 = .bool true := AK.facts_get hF 10 (by simp)
   clear hF
   obtain ⟨A6, c6, h12, r6⟩ := h12
   simp only [h12, h14, h10] at hK ⊢
   clear h12 h14 h10
   go_simp
   refine (HSH.out _ _ _ _ _ r6 (HR1.out.up hJ)).mono ?_
   rintro e w6 ⟨rfl, hb6⟩
   exact hK.out _ _ hb6 (rfl) trivial
  refine AK.sc (lim := 0) (lo := 0) rfl rfl rfl rfl ?_ ?_
  ·intro k_ u w_ hk_ hl_ hJ hF K hK
   have h10 : u 10 = .bool true := AK.facts_get hF 10 (by simp)
   have h15 : u 15 = .bool true := AK.facts_get hF 15 (by simp)
   clear hF
   simp only [h10, h15] at hK ⊢
   clear h10 h15
   go_simp
   exact hK.out _ _ (Below.refl _ _) (rfl) trivial
  refine AK.sc (lim := 0) (lo := 0) rfl rfl rfl rfl ?_ ?_
  ·intro k_ u w_ hk_ hl_ hJ hF K hK
   have h16 : u 16 = .bool true := AK.facts_get hF 16 (by simp)
   clear hF
   simp only [h16] at hK ⊢
   clear h16
   go_simp
   exact hK.out _ _ (Below.refl _ _) (rfl) trivial
  exact AK.StepsOk.nil
 ·intro u W9 hJ9 hF
  have h4 : u 4 = .bool true := AK.facts_get hF 4 (by simp [rtsaL, AK.temps])
  clear hF
  simp only [h4]
  have HJ := Lib.hid (HB2.out.trans (hJ9.mono HB2.out.size))
  clear hJ9
  go_wp2_with fail
  go_ret
  exact ⟨rfl, by have h9 := HJ.out; first | exact h9 | (rw [← HS0.out]; exact h9)⟩
end Go.Proofs.Ytihgnnocagfdeaa
namespace Go.Proofs.Ytihgnnocagfdeaa.AL
open Go Go.RowKit
open Go.Proofs.Ytihgnnocagfdeaa.AS (waits2 aOk Apart getD_flag)
open Go.Proofs.Ytihgnnocagfdeaa.AK (chk Chk chk_spec)
open Go.Proofs.Ytihgnnocagfdeaa (fillL upd fillL_size fillL_get fillL_upd fillL_self filter_less none_listed put_fill)
variable {Rp : World → World → Prop} {Kp : List Value → World → List Value → World → Prop}
structure Fact (Kp : List Value → World → List Value → World → Prop) where
 p : List Value → Value → World → Prop
 st : ∀ v l w l' w', Kp l w l' w' → p l v w → p l' v w'
def Fact.triv : Fact Kp := ⟨fun _ _ _ => True, fun _ _ _ _ _ _ _ => trivial⟩
def Fact.is (x : Value) : Fact Kp := ⟨fun _ v _ => v = x, fun _ _ _ _ _ _ h => h⟩
def look : List (Nat × Fact Kp) → Nat → Fact Kp
 | [], _ => Fact.triv
 | (k, f) :: rest, d => bif Nat.beq k d then f else look rest d
def temps (FL : List (Nat × Fact Kp)) : List Nat := FL.map (·.1)
def factOf (FL : List (Nat × Fact Kp)) (dst : Option Nat) (l : List Value) (v : Value) (w : World) : Prop := match dst with
 | none => True
 | some d => (look FL d).p l v w
def Facts (FL : List (Nat × Fact Kp)) (u : Nat → Value) (l : List Value) (w : World) : List Nat → Prop
 | [] => True
 | d :: ds => (look FL d).p l (u d) w ∧ Facts FL u l w ds
theorem facts_mk {FL : List (Nat × Fact Kp)} {u : Nat → Value} {l : List Value} {w : World} {ds : List Nat} (h : ∀ d ∈ ds, (look FL d).p l (u d) w) : Facts FL u l w ds := by
 induction ds with
 | nil => trivial
 | cons d ds ih => exact ⟨h d (List.mem_cons_self ..), ih fun e he => h e (List.mem_cons_of_mem _ he)⟩
theorem facts_get {FL : List (Nat × Fact Kp)} {u : Nat → Value} {l : List Value} {w : World} {ds : List Nat} (h : Facts FL u l w ds) (d : Nat) (hd : d ∈ ds) : (look FL d).p l (u d) w := by
 induction ds with
 | nil => cases hd
 | cons e ds ih =>
  rcases List.mem_cons.1 hd with rfl | hd
  ·exact h.1
  ·exact ih h.2 hd
section
variable {P : Program} {ops : Array Oper} {Q : Exit → Act → World → Prop} {FL : List (Nat × Fact Kp)} {J : Nat → List Value → World → Prop} {t0 : Array Value} {df : List Deferred} {ds : List Nat}
 {st lm ln al : List Nat} {js : List (List Nat)} {pt : List (List Nat)}
def StepOk (Rp : World → World → Prop) (al : List Nat) (P : Program) (ops : Array Oper) (Q : Exit → Act → World → Prop) (FL : List (Nat × Fact Kp)) (J : Nat → List Value → World → Prop) (js : List (List Nat)) (fr : (Nat → Value) → Array Value) (df : List Deferred) (o : Oper) (need : List Nat) (lim lo : Nat) : Prop :=
 ∀ (k : Nat) (u : Nat → Value) (w : World), k ≤ lim → lo ≤ k → J k ((js.getD k []).map u) w → Facts FL u ((js.getD k []).map u) w need → ∀ K : Act → World → Prop, Shut (∀ v w', Rp w w' → factOf FL o.dst ((js.getD k []).map u) v w' → aOk al o.dst v w w' → K ((⟨fr u, df⟩ : Act).put o.dst v) w') →
  if Region.wanted o (yielded ops (fr u)) = true then Oper.wp P o ⟨fr u, df⟩ w K Q else K ((⟨fr u, df⟩ : Act).put o.dst undef) w
def StoreOk (al : List Nat) (P : Program) (ops : Array Oper) (Q : Exit → Act → World → Prop) (FL : List (Nat × Fact Kp)) (J : Nat → List Value → World → Prop) (js : List (List Nat)) (fr : (Nat → Value) → Array Value) (df : List Deferred) (o : Oper) (need : List Nat) (k : Nat) : Prop :=
 ∀ (u : Nat → Value) (w : World), J k ((js.getD k []).map u) w → Apart al u → Facts FL u ((js.getD k []).map u) w need → ∀ K : Act → World → Prop, Shut (∀ v w', J (k + 1) ((js.getD (k + 1) []).map (upd u o.dst v)) w' → Kp ((js.getD k []).map u) w ((js.getD (k + 1) []).map (upd u o.dst v)) w' → factOf FL o.dst ((js.getD (k + 1) []).map (upd u o.dst v)) v w' → K ((⟨fr u, df⟩ : Act).put o.dst v) w') →
  if Region.wanted o (yielded ops (fr u)) = true then Oper.wp P o ⟨fr u, df⟩ w K Q else K ((⟨fr u, df⟩ : Act).put o.dst undef) w
def StepsOk (Rp : World → World → Prop) (al : List Nat) (P : Program) (ops : Array Oper) (Q : Exit → Act → World → Prop) (FL : List (Nat × Fact Kp)) (J : Nat → List Value → World → Prop) (js : List (List Nat)) (fr : (Nat → Value) → Array Value) (df : List Deferred) (pt : List (List Nat)) (st lm ln : List Nat) : List Oper → Nat → Prop
 | [], _ => True
 | o :: rest, i => (match st.idxOf? i with
   | some k => StoreOk al P ops Q FL J js fr df o (pt.getD i []) k
   | none => StepOk Rp al P ops Q FL J js fr df o (pt.getD i []) (lm.getD i st.length) (ln.getD i 0)) ∧ StepsOk Rp al P ops Q FL J js fr df pt st lm ln rest (i + 1)
theorem StepsOk.nil {fr : (Nat → Value) → Array Value} {i : Nat} : StepsOk Rp al P ops Q FL J js fr df pt st lm ln [] i := trivial
theorem sc {fr : (Nat → Value) → Array Value} {o : Oper} {rest : List Oper} {i : Nat} {need : List Nat} {lim lo : Nat} (h0 : st.idxOf? i = none) (h1 : pt.getD i [] = need) (h2 : lm.getD i st.length = lim) (h3 : ln.getD i 0 = lo)
  (h : StepOk Rp al P ops Q FL J js fr df o need lim lo) (hs : StepsOk Rp al P ops Q FL J js fr df pt st lm ln rest (i + 1)) : StepsOk Rp al P ops Q FL J js fr df pt st lm ln (o :: rest) i := ⟨by rw [h0, h1, h2, h3]; exact h, hs⟩
theorem ss {fr : (Nat → Value) → Array Value} {o : Oper} {rest : List Oper} {i k : Nat} {need : List Nat} (h0 : st.idxOf? i = some k) (h1 : pt.getD i [] = need)
  (h : StoreOk al P ops Q FL J js fr df o need k) (hs : StepsOk Rp al P ops Q FL J js fr df pt st lm ln rest (i + 1)) : StepsOk Rp al P ops Q FL J js fr df pt st lm ln (o :: rest) i := ⟨by rw [h0, h1]; exact h, hs⟩
theorem steps_at {fr : (Nat → Value) → Array Value} : ∀ (l : List Oper) (i0 : Nat), StepsOk Rp al P ops Q FL J js fr df pt st lm ln l i0 → ∀ i o, l[i]? = some o → (match st.idxOf? (i0 + i) with
      | some k => StoreOk al P ops Q FL J js fr df o (pt.getD (i0 + i) []) k
      | none => StepOk Rp al P ops Q FL J js fr df o (pt.getD (i0 + i) []) (lm.getD (i0 + i) st.length) (ln.getD (i0 + i) 0)) := by
  intro l
  induction l with
  | nil => intro i0 _ i o h; simp at h
  | cons x l ih =>
    intro i0 hs i o h
    cases i with
    | zero => simp at h; subst h; exact hs.1
    | succ i =>
      have := ih (i0 + 1) hs.2 i o (by simpa using h)
      rwa [show i0 + 1 + i = i0 + (i + 1) by omega] at this
structure Inv (al : List Nat) (ops : Array Oper) (FL : List (Nat × Fact Kp)) (J : Nat → List Value → World → Prop) (js : List (List Nat)) (t0 : Array Value) (df : List Deferred) (ds : List Nat) (pt : List (List Nat)) (st : List Nat) (listed : Array Bool) (a : Act) (w : World) : Prop where
 fr : ∃ k u, a = ⟨fillL u ds t0, df⟩ ∧ (∀ d, Written ops listed d → (look FL d).p ((js.getD k []).map u) (u d) w) ∧ J k ((js.getD k []).map u) w ∧ k ≤ st.length ∧ (∀ m, m < k → listed.getD (st.getD m 0) false = true) ∧
  (∀ m, k ≤ m → m < st.length → listed.getD (st.getD m 0) false = false) ∧ (∀ d ∈ js.getD k [], Written ops listed d) ∧ (∀ d ∈ al, Written ops listed d → ∃ g, u d = .pointer (some ⟨g, 0, none⟩) ∧ g < w.heap.size) ∧
  (∀ d ∈ al, ∀ d' ∈ al, d ≠ d' → Written ops listed d → Written ops listed d' → u d ≠ u d')
 cl : ∀ i, listed.getD i false = true → ∀ d ∈ pt.getD i [], Written ops listed d
 cs : ∀ j oj, ops[j]? = some oj → listed.getD j false = true → ∀ e ∈ oj.after, Region.binds .any e = true → listed.getD e.on false = true
 sz : listed.size = ops.size
theorem inv_step (hc : Chk al ops pt ds st js lm ln) (hsz : ∀ l w l' w', Kp l w l' w' → w.heap.size ≤ w'.heap.size) (hrk : ∀ l w w', Rp w w' → Kp l w l w') (hst : ∀ k l w w', Rp w w' → J k l w → J k l w') (hs : StepsOk Rp al P ops Q FL J js (fun u => fillL u ds t0) df pt st lm ln ops.toList 0) {listed : Array Bool} {a : Act} {w : World}
    (hI : Inv al ops FL J js t0 df ds pt st listed a w) {i : Nat} (hi : i ∈ Region.ready .any ops listed) :
    wpOp P ops Q i (Inv al ops FL J js t0 df ds pt st (listed.setIfInBounds i true)) a w := by
  obtain ⟨h0, o, ho, hall⟩ := mem_ready.1 hi
  have hlt : i < ops.size := (Array.getElem?_eq_some_iff.1 ho).1
  have hil : i < listed.size := by rw [hI.sz]; exact hlt
  have hun : listed.getD i false = false := by rw [← getD_flag hil]; exact h0
  obtain ⟨k, u, rfl, hfac, hJ, hk, hk1, hk2, hk3, hk4, hk5⟩ := hI.fr
  have hneed : ∀ d ∈ pt.getD i [], Written ops listed d := by
    intro d hd
    obtain ⟨e, he, hb, h1⟩ := hc.need i o ho d hd
    have h2 := hall e he hb
    rcases h1 with ⟨o', h3, h4⟩ | h3
    · exact ⟨e.on, o', h2, h3, h4⟩
    · exact hI.cl e.on h2 d h3
  have hstep := steps_at _ _ hs i o (by simpa using ho)
  rw [Nat.zero_add] at hstep
  have hcs : ∀ j oj, ops[j]? = some oj → (listed.setIfInBounds i true).getD j false = true → ∀ e ∈ oj.after, Region.binds .any e = true → (listed.setIfInBounds i true).getD e.on false = true := by
    intro j oj hj hl e he hb
    by_cases hij : i = j
    · subst hij
      have : oj = o := Option.some.inj (hj.symm.trans ho)
      subst this
      exact getD_set_true (hall e he hb)
    · rw [getD_set_ne false hij] at hl
      exact getD_set_true (hI.cs j oj hj hl e he hb)
  have hcl : ∀ j, (listed.setIfInBounds i true).getD j false = true → ∀ d ∈ pt.getD j [], Written ops (listed.setIfInBounds i true) d := by
    intro j hj d hd
    by_cases hij : i = j
    · subst hij; exact (hneed d hd).more
    · rw [getD_set_ne false hij] at hj
      exact (hI.cl j hj d hd).more
  have hwait : ∀ m, m < k → ∀ j, Region.waitsFor .any ops (st.getD m 0) j = true → listed.getD j false = true := by
    intro m hm j hw
    obtain ⟨oj, hoj, e, he, hb, hon⟩ := Region.waitsFor_spec hw
    rw [← hon]
    exact hI.cs _ oj hoj (hk1 m hm) e he hb
  have hwait2 : ∀ m, m < k → ∀ j, waits2 ops (st.getD m 0) j = true → listed.getD j false = true := by
    intro m hm j hw
    unfold waits2 at hw
    rw [Bool.or_eq_true] at hw
    rcases hw with hw | hw
    · exact hwait m hm j hw
    · obtain ⟨x, -, hx⟩ := List.any_eq_true.1 hw
      rw [Bool.and_eq_true] at hx
      obtain ⟨oj, hoj, e, he, hb, hon⟩ := Region.waitsFor_spec hx.2
      rw [← hon]
      exact hI.cs _ oj hoj (hwait m hm x hx.1) e he hb
  cases hsi : st.idxOf? i with
  | none =>
    rw [hsi] at hstep
    have hns : ∀ m, m < st.length → st.getD m 0 ≠ i := by
      intro m hm e
      have h1 : i ∈ st := by rw [← e]; simp [hm]
      have h2 := List.idxOf?_eq_none_iff.1 hsi
      exact h2 h1
    have hlim : k ≤ lm.getD i st.length := by
      rcases hc.lim i hlt with h1 | h1
      · omega
      · rcases Nat.lt_or_ge (lm.getD i st.length) k with h2 | h2
        · exfalso
          have h3 := hwait2 _ h2 i (by
            have e : st.getD (lm.getD i st.length) ops.size = st.getD (lm.getD i st.length) 0 := by
              have : lm.getD i st.length < st.length := by omega
              generalize lm.getD i st.length = z at *
              simp [this]
            rw [← e]; exact h1)
          rw [hun] at h3; cases h3
        · exact h2
    have hlow : ln.getD i 0 ≤ k := by
      rcases hc.low i hlt with h1 | ⟨h0, h1⟩
      · omega
      · rcases Nat.lt_or_ge k (ln.getD i 0) with h2 | h2
        · exfalso
          have h3 : listed.getD (st.getD (ln.getD i 0 - 1) 0) false = true := by
            unfold waits2 at h1
            rw [Bool.or_eq_true] at h1
            rcases h1 with h1 | h1
            · obtain ⟨oj, hoj, e, he, hb, hon⟩ := Region.waitsFor_spec h1
              have : oj = o := Option.some.inj (hoj.symm.trans ho)
              subst this
              rw [← hon]; exact hall e he hb
            · obtain ⟨x, -, hx⟩ := List.any_eq_true.1 h1
              rw [Bool.and_eq_true] at hx
              obtain ⟨oj, hoj, e, he, hb, hon⟩ := Region.waitsFor_spec hx.1
              have : oj = o := Option.some.inj (hoj.symm.trans ho)
              subst this
              have h4 := hall e he hb
              rw [hon] at h4
              obtain ⟨oj2, hoj2, e2, he2, hb2, hon2⟩ := Region.waitsFor_spec hx.2
              rw [← hon2]
              exact hI.cs _ oj2 hoj2 h4 e2 he2 hb2
          rw [hk2 (ln.getD i 0 - 1) (by omega) (by omega)] at h3
          cases h3
        · exact h2
    refine wpOp_step ho (fun K' hK => hstep k u w hlim hlow hJ (facts_mk fun d hd => hfac d (hneed d hd)) K' ?_)
    intro v w' hb hf hao
    have hwi : ∀ d, Written ops (listed.setIfInBounds i true) d → o.dst = some d ∨ Written ops listed d := by
      rintro d ⟨j, o', h1, h2, h3⟩
      by_cases hij : i = j
      · subst hij
        rw [ho] at h2
        injection h2 with h2
        subst h2
        exact .inl h3
      · rw [getD_set_ne false hij] at h1
        exact .inr ⟨j, o', h1, h2, h3⟩
    have hnw : ∀ d, o.dst = some d → ¬ Written ops listed d := by
      rintro d hd ⟨j, o', h1, h2, h3⟩
      have := hc.once i j o o' d ho h2 hd h3
      subst this
      rw [hun] at h1; cases h1
    have hne : ∀ d, o.dst ≠ some d → upd u o.dst v d = u d := by
      intro d hd
      cases h : o.dst with
      | none => rfl
      | some d' => rw [h] at hd; simp only [upd]; rw [if_neg (fun h => hd (by rw [h]))]
    have hal : ∀ d ∈ al, o.dst = some d → v = .pointer (some ⟨w.heap.size, 0, none⟩) ∧ w.heap.size < w'.heap.size := by
      intro d hd h
      unfold aOk at hao
      rw [h] at hao
      dsimp only at hao
      rw [show al.contains d = true by simpa using hd] at hao
      exact hao
    have eL : (js.getD k []).map (upd u o.dst v) = (js.getD k []).map u := by
      apply List.map_congr_left
      intro d hd
      cases h : o.dst with
      | none => rfl
      | some d' =>
        simp only [upd]
        rw [if_neg]
        rintro rfl
        obtain ⟨j, o', h1, h2, h3⟩ := hk3 d hd
        have := hc.once i j o o' d ho h2 h h3
        subst this
        rw [hun] at h1; cases h1
    refine hK _ _ ⟨⟨k, upd u o.dst v, put_fill u o v (hc.dst i o ho), ?_, ?_, hk, fun m hm => getD_set_true (hk1 m hm), fun m hm hm' => ?_, fun d hd => (hk3 d hd).more, fun d hd hw => ?_, fun d hd d' hd' hdd hw hw' => ?_⟩, hcl, hcs, by simpa using hI.sz⟩
    · rintro d ⟨j, o', h1, h2, h3⟩
      rw [eL]
      by_cases hd : o.dst = some d
      · rw [hd] at hf ⊢
        have e : upd u (some d) v d = v := by simp [upd]
        rw [e]; exact hf
      · have hw : Written ops listed d := by
          by_cases hij : i = j
          · subst hij
            rw [ho] at h2
            injection h2 with h2
            subst h2
            exact absurd h3 hd
          · rw [getD_set_ne false hij] at h1
            exact ⟨j, o', h1, h2, h3⟩
        have e : upd u o.dst v d = u d := by
          cases h : o.dst with
          | none => rfl
          | some d' => rw [h] at hd; simp only [upd]; rw [if_neg (fun h => hd (by rw [h]))]
        rw [e]
        exact (look FL d).st _ _ _ _ _ (hrk _ _ _ hb) (hfac d hw)
    · rw [eL]
      exact hst _ _ _ _ hb hJ
    · rw [getD_set_ne false (Ne.symm (hns m hm'))]; exact hk2 m hm hm'
    · by_cases h : o.dst = some d
      · obtain ⟨h1, h2⟩ := hal d hd h
        exact ⟨w.heap.size, by rw [h]; simp [upd, h1], h2⟩
      · rcases hwi d hw with h1 | h1
        · exact absurd h1 h
        · obtain ⟨g, h2, h3⟩ := hk4 d hd h1
          exact ⟨g, by rw [hne d h]; exact h2, Nat.lt_of_lt_of_le h3 (hsz _ _ _ _ (hrk [] _ _ hb))⟩
    · by_cases h : o.dst = some d
      · have h' : o.dst ≠ some d' := fun h2 => hdd (by rw [h] at h2; injection h2)
        rcases hwi d' hw' with h1 | h1
        · exact absurd h1 h'
        · obtain ⟨g, h2, h3⟩ := hk4 d' hd' h1
          rw [hne d' h', h2, h]
          simp only [upd, if_pos]
          rw [(hal d hd h).1]
          intro he
          simp at he <;> omega
      · rcases hwi d hw with h1 | h1
        · exact absurd h1 h
        · by_cases h' : o.dst = some d'
          · obtain ⟨g, h2, h3⟩ := hk4 d hd h1
            rw [hne d h, h2, h']
            simp only [upd, if_pos]
            rw [(hal d' hd' h').1]
            intro he
            simp at he <;> omega
          · rcases hwi d' hw' with h2 | h2
            · exact absurd h2 h'
            · rw [hne d h, hne d' h']; exact hk5 d hd d' hd' hdd h1 h2
  | some m =>
    rw [hsi] at hstep
    obtain ⟨hm, hmi, -⟩ := List.idxOf?_eq_some_iff.1 hsi
    have hmi' : st.getD m 0 = i := by simp [hm]; exact hmi
    have hmk : m = k := by
      rcases Nat.lt_trichotomy m k with h1 | h1 | h1
      · have := hk1 m h1; rw [hmi', hun] at this; cases this
      · exact h1
      · exfalso
        have h2 := hc.schain m (by omega) hm
        rw [hmi'] at h2
        obtain ⟨oj, hoj, e, he, hb, hon⟩ := Region.waitsFor_spec h2
        have : oj = o := Option.some.inj (hoj.symm.trans ho)
        subst this
        have h3 := hall e he hb
        rw [hon, hk2 (m - 1) (by omega) (by omega)] at h3
        cases h3
    subst hmk
    have hwal : ∀ d ∈ al, Written ops listed d := by
      intro d hd
      obtain ⟨j, o', h1, h2, h3⟩ := hc.alw d hd m hm
      rw [hmi'] at h3
      refine ⟨j, o', ?_, h1, h2⟩
      unfold waits2 at h3
      rw [Bool.or_eq_true] at h3
      rcases h3 with h3 | h3
      · obtain ⟨oj, hoj, e, he, hb, hon⟩ := Region.waitsFor_spec h3
        have : oj = o := Option.some.inj (hoj.symm.trans ho)
        subst this
        rw [← hon]; exact hall e he hb
      · obtain ⟨x, -, hx⟩ := List.any_eq_true.1 h3
        rw [Bool.and_eq_true] at hx
        obtain ⟨oj, hoj, e, he, hb, hon⟩ := Region.waitsFor_spec hx.1
        have : oj = o := Option.some.inj (hoj.symm.trans ho)
        subst this
        have h4 := hall e he hb
        rw [hon] at h4
        obtain ⟨oj2, hoj2, e2, he2, hb2, hon2⟩ := Region.waitsFor_spec hx.2
        rw [← hon2]
        exact hI.cs _ oj2 hoj2 h4 e2 he2 hb2
    refine wpOp_step ho (fun K' hK => hstep u w hJ (fun d hd d' hd' hdd => hk5 d hd d' hd' hdd (hwal d hd) (hwal d' hd')) (facts_mk fun d hd => hfac d (hneed d hd)) K' ?_)
    intro v w' hJ' hb hf
    have hnw : ∀ d, o.dst = some d → ¬ Written ops listed d := by
      rintro d hd ⟨j, o', h1, h2, h3⟩
      have := hc.once i j o o' d ho h2 hd h3
      subst this
      rw [hun] at h1; cases h1
    have hne : ∀ d, o.dst ≠ some d → upd u o.dst v d = u d := by
      intro d hd
      cases h : o.dst with
      | none => rfl
      | some d' => rw [h] at hd; simp only [upd]; rw [if_neg (fun h => hd (by rw [h]))]
    have hnl : ∀ d ∈ al, o.dst ≠ some d := fun d hd h => hnw d h (hwal d hd)
    refine hK _ _ ⟨⟨m + 1, upd u o.dst v, put_fill u o v (hc.dst i o ho), ?_, hJ', hm, fun j hj => ?_, fun j hj hj' => ?_, fun d hd => ?_, fun d hd hw => ?_, fun d hd d' hd' hdd hw hw' => by rw [hne d (hnl d hd), hne d' (hnl d' hd')]; exact hk5 d hd d' hd' hdd (hwal d hd) (hwal d' hd')⟩, hcl, hcs, by simpa using hI.sz⟩
    · rintro d ⟨j, o', h1, h2, h3⟩
      by_cases hd : o.dst = some d
      · rw [hd] at hf ⊢
        have e : upd u (some d) v d = v := by simp [upd]
        rw [e]; exact hf
      · have hw : Written ops listed d := by
          by_cases hij : i = j
          · subst hij
            rw [ho] at h2
            injection h2 with h2
            subst h2
            exact absurd h3 hd
          · rw [getD_set_ne false hij] at h1
            exact ⟨j, o', h1, h2, h3⟩
        rw [hne d hd]
        exact (look FL d).st _ _ _ _ _ hb (hfac d hw)
    · by_cases h1 : j = m
      · subst h1; rw [hmi']; simp [hil]
      · exact getD_set_true (hk1 j (by omega))
    · have h1 := hk2 j (by omega) hj'
      by_cases h2 : st.getD j 0 = i
      · exfalso
        have h3 : ∀ n, m ≤ n → n < st.length → i ≤ st.getD n 0 ∧ (m < n → i < st.getD n 0) := by
          intro n
          induction n with
          | zero => intro h4 h5; exact ⟨by have : m = 0 := by omega
                                           subst this; rw [hmi']; exact Nat.le_refl _, fun h => by omega⟩
          | succ n ih =>
            intro h4 h5
            by_cases h6 : m = n + 1
            · subst h6; exact ⟨by rw [hmi']; exact Nat.le_refl _, fun h => by omega⟩
            · have h7 := ih (by omega) (by omega)
              have h8 := hc.schain (n + 1) (by omega) h5
              obtain ⟨oj, hoj, e, he, hb', hon⟩ := Region.waitsFor_spec h8
              have h9 := hc.edge _ oj hoj e he hb'
              rw [hon, Nat.add_sub_cancel] at h9
              exact ⟨by omega, fun _ => by omega⟩
        have := (h3 j (by omega) hj').2 (by omega)
        omega
      · rw [getD_set_ne false (Ne.symm h2)]; exact h1
    · rcases hc.sjs m hm d hd with h1 | h1
      · rw [hmi'] at h1; exact (hneed d h1).more
      · rcases h1 with h1 | ⟨o2, h1, h2⟩
        · exact (hk3 d h1).more
        · rw [hmi'] at h1
          exact ⟨i, o2, by simp [hil], h1, h2⟩
    · obtain ⟨g, h1, h2⟩ := hk4 d hd (hwal d hd)
      exact ⟨g, by rw [hne d (hnl d hd)]; exact h1, Nat.lt_of_lt_of_le h2 (hsz _ _ _ _ hb)⟩
theorem ready_nil_all (hc : Chk al ops pt ds st js lm ln) {listed : Array Bool} (hsz : listed.size = ops.size) (hr : Region.ready .any ops listed = []) : ∀ n i, i < n → i < ops.size → listed.getD i false = true := by
 intro n
 induction n with
 | zero => intro i h; omega
 | succ n ih =>
  intro i hin hi
  have hil : i < listed.size := by omega
  cases hv : listed.getD i false with
  | true => rfl
  | false =>
   exfalso
   have ho : ops[i]? = some ops[i] := by simp [hi]
   have : i ∈ Region.ready .any ops listed := by
    rw [mem_ready]
    refine ⟨by simp [hil] at hv ⊢; exact hv, _, ho, fun e he hb => ?_⟩
    have h1 := hc.edge i _ ho e he hb
    exact ih e.on (by omega) (by omega)
   rw [hr] at this
   cases this
theorem wpAny_inv (hc : Chk al ops pt ds st js lm ln) (hsz : ∀ l w l' w', Kp l w l' w' → w.heap.size ≤ w'.heap.size) (hrk : ∀ l w w', Rp w w' → Kp l w l w') (hst : ∀ k l w w', Rp w w' → J k l w → J k l w') (hs : StepsOk Rp al P ops Q FL J js (fun u => fillL u ds t0) df pt st lm ln ops.toList 0)
  (hend : ∀ u w, J st.length ((js.getD st.length []).map u) w → Facts FL u ((js.getD st.length []).map u) w ds → Q .normal ⟨fillL u ds t0, df⟩ w) :
  ∀ (fuel : Nat) (listed : Array Bool) (a : Act) (w : World), ((List.range ops.size).filter fun j => !listed.getD j true).length ≤ fuel → Inv al ops FL J js t0 df ds pt st listed a w → wpAny P .any ops Q fuel listed a w := by
 have hfin : ∀ (listed : Array Bool) (a : Act) (w : World), Inv al ops FL J js t0 df ds pt st listed a w → Region.ready .any ops listed = [] → Q .normal a w := by
  intro listed a w hI hr
  obtain ⟨k, u, rfl, hfac, hJ, hk, hk1, hk2, hk3, hk4, hk5⟩ := hI.fr
  have hall := Go.Proofs.Ytihgnnocagfdeaa.AL.ready_nil_all hc hI.sz hr
  have hkl : k = st.length := by
   rcases Nat.lt_or_ge k st.length with h | h
   ·have h1 := hk2 k (Nat.le_refl _) h
    rw [hall (st.getD k 0 + 1) _ (by omega) (hc.slt k h)] at h1
    cases h1
   ·omega
  subst hkl
  refine hend u w hJ (facts_mk fun d hd => hfac d ?_)
  obtain ⟨i, o, h1, h2⟩ := hc.wr d hd
  exact ⟨i, o, hall (i + 1) i (by omega) (Array.getElem?_eq_some_iff.1 h1).1, h1, h2⟩
 intro fuel
 induction fuel with
 | zero =>
  intro listed a w hcnt hI
  have hr : Region.ready .any ops listed = [] := by
   rw [List.eq_nil_iff_forall_not_mem]
   intro j hj
   obtain ⟨h0, o, ho, -⟩ := mem_ready.1 hj
   have hlt : j < ops.size := (Array.getElem?_eq_some_iff.1 ho).1
   have hm : j ∈ (List.range ops.size).filter fun j => !listed.getD j true := by
    rw [List.mem_filter]
    exact ⟨List.mem_range.2 hlt, by rw [h0]; rfl⟩
   have := List.length_pos_of_mem hm
   omega
  exact ⟨hr, hfin _ _ _ hI hr⟩
 | succ fuel ih =>
  intro listed a w hcnt hI
  refine ⟨fun hr => hfin _ _ _ hI hr, fun i hi => ?_⟩
  obtain ⟨h0, o, ho, -⟩ := mem_ready.1 hi
  have hlt : i < ops.size := (Array.getElem?_eq_some_iff.1 ho).1
  refine wpOp_mono (fun a' w' hI' => ih _ a' w' ?_ hI') (inv_step hc hsz hrk hst hs hI hi)
  have := filter_less (p := fun j => !listed.getD j true) (q := fun j => !(listed.setIfInBounds i true).getD j true) (i := i) (by simp only [h0]; rfl) (by
   have hil : i < listed.size := by rw [hI.sz]; exact hlt
   simp [hil]) (fun j hj => by
   by_cases hij : i = j
   ·subst hij
    exfalso
    have hil : i < listed.size := by rw [hI.sz]; exact hlt
    simp [hil] at hj
   ·rw [getD_set_ne true hij] at hj; exact hj) (List.range ops.size) (List.mem_range.2 hlt)
  omega
theorem region_facts {id : Nat} {w : World} {opl : List Oper} (FL : List (Nat × Fact Kp)) (J : Nat → List Value → World → Prop) (pt : List (List Nat)) (st : List Nat) (js : List (List Nat)) (lm ln : List Nat) (al : List Nat) {fr : (Nat → Value) → Array Value} (hfr : ∀ u, fillL u (temps FL) t0 = fr u)
  (hm : P.follows .mixedOrders = true) (hchk : chk al opl.toArray pt (temps FL) st js lm ln = true) (hsz : ∀ l w l' w', Kp l w l' w' → w.heap.size ≤ w'.heap.size) (hrk : ∀ l w w', Rp w w' → Kp l w l w') (hst : ∀ k l w w', Rp w w' → J k l w → J k l w') (hJ : J 0 [] w.drew)
  (hs : StepsOk Rp al P opl.toArray Q FL J js fr df pt st lm ln opl 0)
  (hend : ∀ u w, J st.length ((js.getD st.length []).map u) w → Facts FL u ((js.getD st.length []).map u) w (temps FL) → Q .normal ⟨fr u, df⟩ w) : (Code.region id opl.toArray true).wp P Q ⟨t0, df⟩ w := by
 obtain rfl : (fun u => fillL u (temps FL) t0) = fr := funext hfr
 have hc := chk_spec hchk
 refine wp_region_any hm (wpAny_inv (t0 := t0) hc hsz hrk hst hs hend opl.toArray.size _ _ _ ?_ ⟨⟨0, fun d => t0.getD d undef, by rw [fillL_self], ?_, by rw [hc.js0]; exact hJ, Nat.zero_le _, fun m h => by omega, fun m _ _ => none_listed _ _, fun d hd => (by rw [hc.js0] at hd; cases hd), fun d _ hw => (by obtain ⟨j, o', h1, _, _⟩ := hw; rw [none_listed] at h1; cases h1), fun d _ d' _ _ hw => by obtain ⟨j, o', h1, _, _⟩ := hw; rw [none_listed] at h1; cases h1⟩, ?_, ?_, by simp⟩)
 ·exact Nat.le_trans (List.length_filter_le _ _) (by simp)
 ·rintro d ⟨j, o', h1, -, -⟩
  rw [none_listed] at h1; cases h1
 ·intro i hi
  rw [none_listed] at hi; cases hi
 ·intro j oj _ hl
  rw [none_listed] at hl; cases hl
end
end Go.Proofs.Ytihgnnocagfdeaa.AL
namespace Go.Proofs.Ytihgnnocagfdeaa
open Go.RowKit Go.Sort
theorem blk_lt {w : World} {b : Nat} {x : Obj} (h : w.heap[b]? = some x) : b < w.heap.size := (Array.getElem?_eq_some_iff.1 h).1
structure KpA (l : List Value) (W : World) (l' : List Value) (W' : World) : Prop where
 size : W.heap.size ≤ W'.heap.size
 len : l.length ≤ l'.length
 fin : 2 ≤ l.length → ∀ (b : Nat) (cs : Array Value), W.heap[b]? = some (Obj.cells cs 24) → W'.heap[b]? = W.heap[b]?
 keep : ∀ (b : Nat) (cs : Array Value), W.heap[b]? = some (Obj.cells cs 24) → 0 < cs.size → (∀ v ∈ l, v.ownBlock ≠ some b) → W'.heap[b]? = W.heap[b]?
 own : ∀ v ∈ l', ∀ b : Nat, v.ownBlock = some b → (∃ x ∈ l, x.ownBlock = some b) ∨ W.heap.size ≤ b ∨ W.heap[b]? = some (Obj.cells #[] 24)
 nil : l' = [] → ∀ b : Nat, b < W.heap.size → W'.heap[b]? = W.heap[b]?
theorem KpA.of {l : List Value} {W W' : World} (hb : Below W.heap.size W W') : KpA l W l W' := ⟨hb.size, Nat.le_refl _, fun _ b _ h => hb.block b (blk_lt h), fun b _ h _ _ => hb.block b (blk_lt h), fun v hv _ h => .inl ⟨v, hv, h⟩, fun _ b h => hb.block b h⟩
def NilA (B : Nat) (l : List Value) (v : Value) (w : World) : Prop := l = [] → NilT B v w
def nilA (B : Nat) : AL.Fact KpA := ⟨NilA B, fun v l w l' w' hk h e => by
 have h0 : l = [] := List.eq_nil_of_length_eq_zero (by have := hk.len; rw [e] at this; simpa using this)
 obtain ⟨b, h1, h2, h3⟩ := h h0
 exact ⟨b, h1, h2, h3.same (hk.nil e b h3.lt)⟩⟩
def BoxA (r : Rt) (l : List Value) (v : Value) (w : World) : Prop := ∃ b, v = .slice (some ⟨b, 0, none⟩) 1 1 ∧ Wh 24 w b (rtC r) ∧ ∀ x ∈ l, x.ownBlock ≠ some b
def boxA (r : Rt) : AL.Fact KpA := ⟨BoxA r, fun v l w l' w' hk ⟨b, h1, h2, h3⟩ => ⟨b, h1, h2.same (hk.keep b _ h2.blk (by simp [rtC]) h3), fun x hx e => by
 rcases hk.own x hx b e with ⟨y, hy, e2⟩ | h4 | h4
 ·exact h3 y hy e2
 ·have := h2.lt; omega
 ·rw [h2.blk] at h4
  simp [rtC] at h4⟩⟩
theorem ownR_blk {W : World} {B : Nat} {v : Value} {M : List Rt} (h : OwnR lyT 24 W B v M) {g : Nat} (hg : v.ownBlock = some g) : ∃ cs : Array Value, W.heap[g]? = some (Obj.cells cs 24) ∧ (0 < M.length → 0 < cs.size) := by
 rcases h.2 with ⟨rfl, _⟩ | ⟨g', cap, cur, rfl, _, hg', hn, _, hsz, _⟩
 ·cases hg
 ·cases hg
  refine ⟨cur, hg', fun h0 => ?_⟩
  rw [hsz, show lyT.s = 4 from rfl]
  omega
def PutA (B : Nat) (M : List Rt) (l : List Value) (v : Value) (w : World) : Prop := 0 < M.length ∧ ∃ A c, v = .slice A M.length c ∧ OwnR lyT 24 w B (.slice A M.length c) M ∧ ∀ x ∈ l, ∀ b, x.ownBlock = some b → (Value.slice A M.length c).ownBlock ≠ some b
def putA (B : Nat) (M : List Rt) : AL.Fact KpA := ⟨PutA B M, fun v l w l' w' hk ⟨h0, A, c, h1, h2, h3⟩ => ⟨h0, A, c, h1, h2.blk fun g hg => by
 obtain ⟨cs, h4, h5⟩ := ownR_blk h2 hg
 exact hk.keep g cs h4 (h5 h0) (fun x hx e => h3 x hx g e hg), fun x hx b e e2 => by
 obtain ⟨cs, h4, h5⟩ := ownR_blk h2 e2
 rcases hk.own x hx b e with ⟨y, hy, e3⟩ | h6 | h6
 ·exact h3 y hy b e3 e2
 ·have := blk_lt h4; omega
 ·rw [h4] at h6
  injection h6 with h6
  injection h6 with h6 _
  subst h6
  exact absurd (h5 h0) (by simp)⟩⟩
def AgA (g : ByteArray) (B : Nat) (H M : List Rt) (l : List Value) (v : Value) (w : World) : Prop := 2 ≤ l.length ∧ ∃ A c A' c', v = refV g (.slice A H.length c) (.slice A' M.length c') ∧ OwnR lyT 24 w B (.slice A H.length c) H ∧ OwnR lyT 24 w B (.slice A' M.length c') M
def agA (g : ByteArray) (B : Nat) (H M : List Rt) : AL.Fact KpA := ⟨AgA g B H M, fun v l w l' w' hk ⟨h0, A, c, A', c', h1, h2, h3⟩ => ⟨Nat.le_trans h0 hk.len, A, c, A', c', h1, h2.blk fun g hg => by
 obtain ⟨cs, h4, -⟩ := ownR_blk h2 hg
 exact hk.fin h0 g cs h4, h3.blk fun g hg => by
 obtain ⟨cs, h4, -⟩ := ownR_blk h3 hg
 exact hk.fin h0 g cs h4⟩⟩
def sJ (g : ByteArray) (w0 : World) (s4 : Nat) (H H2 M : List Rt) : Nat → List Value → World → Prop
 | 0, _, W => Below w0.heap.size w0 W
 | 1, l, W => Below w0.heap.size w0 W ∧ (∀ v ∈ l, ∀ b, v.ownBlock = some b → b < W.heap.size) ∧ ∀ v, l = [v] → OwnR lyT 24 W w0.heap.size v H
 | 2, l, W => Below w0.heap.size w0 W ∧ (∀ v ∈ l, ∀ b, v.ownBlock = some b → b < W.heap.size) ∧ ∀ v x, l = [v, x] → OwnR lyT 24 W w0.heap.size x H2
 | _ + 3, _, W => Only (fun b => b = s4 ∨ w0.heap.size ≤ b) w0 W ∧ ∃ A c A' c', Wh 36 W s4 [.string g, .slice A H2.length c, .slice A' M.length c'] ∧ OwnR lyT 24 W w0.heap.size (.slice A H2.length c) H2 ∧ OwnR lyT 24 W w0.heap.size (.slice A' M.length c') M
theorem sJ.st (g : ByteArray) (w0 : World) (s4 : Nat) (H H2 M : List Rt) : ∀ k l W W', Below W.heap.size W W' → sJ g w0 s4 H H2 M k l W → sJ g w0 s4 H H2 M k l W'
 | 0, _, _, _, hb, h => Below.trans h (hb.mono (Below.size h))
 | 1, _, _, _, hb, h => ⟨h.1.trans (hb.mono h.1.size), fun v hv b e => Nat.lt_of_lt_of_le (h.2.1 v hv b e) hb.size, fun v hv => (h.2.2 v hv).up hb⟩
 | 2, _, _, _, hb, h => ⟨h.1.trans (hb.mono h.1.size), fun v hv b e => Nat.lt_of_lt_of_le (h.2.1 v hv b e) hb.size, fun v x hv => (h.2.2 v x hv).up hb⟩
 | _ + 3, _, _, _, hb, ⟨h1, A, c, A', c', h2, h3, h4⟩ => ⟨h1.trans (Only.of hb), A, c, A', c', h2.up hb, h3.up hb, h4.up hb⟩
theorem sJ.low {g : ByteArray} {w0 W : World} {s4 : Nat} {H H2 M : List Rt} {k : Nat} {l : List Value} (h : sJ g w0 s4 H H2 M k l W) (hk : k ≤ 2) : Below w0.heap.size w0 W := by
 match k, hk with
 | 0, _ => exact h
 | 1, _ => exact h.1
 | 2, _ => exact h.1
theorem sJ.lt {g : ByteArray} {w0 W : World} {s4 : Nat} {H H2 M : List Rt} {k : Nat} {u : Nat → Value} {js : List (List Nat)} (h : sJ g w0 s4 H H2 M k ((js.getD k []).map u) W) (hk : k ≤ 2) (h0 : js.getD 0 [] = []) : ∀ x ∈ (js.getD k []).map u, ∀ b, x.ownBlock = some b → b < W.heap.size := by
 match k, hk with
 | 0, _ => rw [h0]; simp
 | 1, _ => exact h.2.1
 | 2, _ => exact h.2.1
theorem own1_lt {W : World} {B : Nat} {v : Value} {L : List Rt} (h : OwnR lyT 24 W B v L) : ∀ x ∈ [v], ∀ b, x.ownBlock = some b → b < W.heap.size := fun x hx b e => by
 obtain rfl : x = v := by simpa using hx
 exact (h.lt e).2
theorem own2_lt {W : World} {B : Nat} {v x : Value} {L : List Rt} (h1 : ∀ b, v.ownBlock = some b → b < W.heap.size) (h : OwnR lyT 24 W B x L) : ∀ y ∈ [v, x], ∀ b, y.ownBlock = some b → b < W.heap.size := fun y hy b e => by
 rcases List.mem_cons.1 hy with rfl | hy
 ·exact h1 b e
 ·exact own1_lt h y hy b e
theorem ownWh0 {W : World} {B b : Nat} (hw : Wh 24 W b []) (hb : B ≤ b) : OwnR lyT 24 W B (.slice (some ⟨b, 0, none⟩) 0 0) [] := ⟨by simp [Lay.all], .inr ⟨b, 0, #[], rfl, hb, hw.blk, Nat.le_refl _, Nat.zero_le _, by simp, by simp [Lay.all]⟩⟩
theorem kpA46 {W W' : World} {b : Nat} {v' : Value} (hw : Wh 24 W b []) (hg : W.grownBy W' (some b)) (hn : v'.ownBlock = some b ∨ v'.ownBlock = some W.heap.size) : KpA [] W [v'] W' := by
 refine ⟨hg.size, Nat.zero_le _, fun h => absurd h (by simp), fun b' cs h1 h2 _ => hg.block b' (blk_lt h1) (fun e => ?_), fun v hv b' e => ?_, fun h => absurd h (by simp)⟩
 ·cases e
  rw [hw.blk] at h1
  injection h1 with h1
  injection h1 with h1 _
  subst h1
  simp at h2
 ·obtain rfl : v = v' := by simpa using hv
  rcases hn with hn | hn
  ·rw [hn] at e; cases e; exact .inr (.inr hw.blk)
  ·rw [hn] at e; cases e; exact .inr (.inl (Nat.le_refl _))
theorem kpA49 {W W' : World} {v v' : Value} (hg : W.grownBy W' v.ownBlock) (hn : v'.ownBlock = v.ownBlock ∨ v'.ownBlock = some W.heap.size) : KpA [v] W [v, v'] W' := by
 refine ⟨hg.size, by simp, fun h => absurd h (by simp), fun b' cs h1 h2 h3 => hg.block b' (blk_lt h1) (fun e => h3 v (by simp) e.symm), fun x hx b' e => ?_, fun h => absurd h (by simp)⟩
 rcases List.mem_cons.1 hx with rfl | hx
 ·exact .inl ⟨x, by simp, e⟩
 ·obtain rfl : x = v' := by simpa using hx
  rcases hn with hn | hn
  ·exact .inl ⟨v, by simp, hn ▸ e⟩
  ·rw [hn] at e; cases e; exact .inr (.inl (Nat.le_refl _))
theorem kpA55 {W W' : World} {v x : Value} {s4 : Nat} {cs : List Value} (hw : Wh 36 W s4 cs) (ho : Only (fun k => k = s4) W W') : KpA [v, x] W [v, x, v] W' := by
 have h0 : ∀ (b : Nat) (cs' : Array Value), W.heap[b]? = some (Obj.cells cs' 24) → W'.heap[b]? = W.heap[b]? := fun b cs' h => ho.blk b (blk_lt h) (fun e => by
  have e2 : b = s4 := e
  subst e2
  rw [hw.blk] at h
  injection h with h
  injection h with _ h
  exact absurd h (by decide))
 refine ⟨ho.size, by simp, fun _ => h0, fun b cs' h _ _ => h0 b cs' h, fun y hy b e => .inl ⟨y, ?_, e⟩, fun h => absurd h (by simp)⟩
 simp at hy ⊢
 rcases hy with h | h | h <;> simp [h]
def rtseL (g : ByteArray) (s0 B3 n1 c1 n2 c2 : Nat) (A1 A2 : Option Addr) (r : Rt) (H2 M : List Rt) : List (Nat × AL.Fact (KpA)) := [(41, AL.Fact.is (.pointer (some ⟨s0, 0, none⟩))), (42, AL.Fact.is (.string g)), (43, nilA B3), (44, AL.Fact.is (.pointer (some ⟨s0, 1, none⟩))), (45, AL.Fact.is (.slice A1 n1 c1)), (46, AL.Fact.triv), (47, AL.Fact.is (rtVl r)), (48, boxA r), (49, AL.Fact.triv), (50, AL.Fact.is (.pointer (some ⟨s0, 2, none⟩))), (51, AL.Fact.is (.slice A2 n2 c2)), (52, AL.Fact.is (rtVl r)), (53, putA B3 M), (54, agA g B3 H2 M), (5, AL.Fact.is (.int .i64 0))]
set_option maxRecDepth 100000 in
set_option maxHeartbeats 6400000 in
theorem rset16_any (g : ByteArray) (A1 A2 : Option Addr) (c1 c2 : Nat) (H R : List Rt) (r : Rt) (w : World) (h1 : RowAt lyT w A1 H) (h2 : RowAt lyT w A2 R) (ha : AscT R) (hH : H.length ≤ 900) (hR : R.length ≤ 900) (hr : r.1.1.size ≤ maxLen) :
  Calls Try.prog 21 #[refV g (.slice A1 H.length c1) (.slice A2 R.length c2), rtVl r] w fun e w' => (if rtP g r = true then ∃ A c A' c', e = .returned (.tuple #[refV g (.slice A (H ++ [r]).length c) (.slice A' (putR R r).length c'), .int .i64 0]) ∧ OwnR lyT 24 w' w.heap.size (.slice A (H ++ [r]).length c) (H ++ [r]) ∧ OwnR lyT 24 w' w.heap.size (.slice A' (putR R r).length c') (putR R r) else e = .returned (.tuple #[refV g (.slice A1 H.length c1) (.slice A2 R.length c2), .int .i64 1])) ∧ Below w.heap.size w w' := by
 obtain ⟨i0, hiI, hz1, hz2, hz3⟩ := info_parts infoT
 obtain ⟨n1, hn1⟩ : ∃ n, H.length = n := ⟨_, rfl⟩
 obtain ⟨n2, hn2⟩ : ∃ n, R.length = n := ⟨_, rfl⟩
 have HN1 := Lib.hid hn1
 have HN2 := Lib.hid hn2
 rw [hn1, hn2]
 obtain ⟨s0, hs0⟩ : ∃ s0, w.heap.size = s0 := ⟨_, rfl⟩
 obtain ⟨w2, hw2⟩ : ∃ w2, ((w.alloc (.cells #[.string g, .slice A1 n1 c1, .slice A2 n2 c2] 36)).alloc (.cells #[.string r.1.1, .int .i64 r.1.2.1, .int .i64 r.1.2.2, .int .i64 r.2] 24)).alloc (.cells #[.string ⟨#[]⟩, .slice none 0 0, .slice none 0 0] 36) = w2 := ⟨_, rfl⟩
 have HXT : Hid (Wh 36 w2 s0 [.string g, .slice A1 n1 c1, .slice A2 n2 c2]) := Lib.hid (by rw [← hw2, ← hs0]; exact ((Wh.new w _ _).up (below_alloc_new _)).up (below_alloc_new _))
 have HXR : Hid (Wh 24 w2 (s0 + 1) (rtC r)) := Lib.hid (by
  rw [← hw2, ← hs0]
  have h9 := Wh.new (w.alloc (.cells #[.string g, .slice A1 n1 c1, .slice A2 n2 c2] 36)) 24 (rtC r)
  rw [World.size_alloc] at h9
  exact h9.up (below_alloc_new _))
 have HRC : Hid (Wh 36 w2 (s0 + 2) rfz) := Lib.hid (by
  rw [← hw2, ← hs0]
  have h9 := Wh.new ((w.alloc (.cells #[.string g, .slice A1 n1 c1, .slice A2 n2 c2] 36)).alloc (.cells #[.string r.1.1, .int .i64 r.1.2.1, .int .i64 r.1.2.2, .int .i64 r.2] 24)) 36 rfz
  rw [World.size_alloc, World.size_alloc] at h9
  exact h9)
 have HB2 : Hid (Below w.heap.size w w2) := Lib.hid (by rw [← hw2]; exact below_new (below_new (below_alloc_new _) _) _)
 have HS0 := Lib.hid hs0
 have HSZ2 : Hid (w2.heap.size = s0 + 3) := Lib.hid (by rw [← hw2, ← hs0]; simp)
 have HR1 := Lib.hid (h1.up HB2.out)
 have HR2 := Lib.hid (h2.up HB2.out)
 have HH := Lib.hid (show n1 ≤ 900 by omega)
 have HHR := Lib.hid (show n2 ≤ 900 by omega)
 have HAS := Lib.hid ha
 obtain ⟨p, hp⟩ : ∃ p, rtP g r = p := ⟨_, rfl⟩
 have HPR : Hid (∀ W, Calls Try.prog 35 #[.string g, rtVl r] W fun e w' => e = .returned (.bool p) ∧ Below W.heap.size W w') := Lib.hid (fun W => by rw [← hp]; exact proper_any g r W hr)
 obtain ⟨F, hF⟩ : ∃ F, (rtF R r.1).isSome = F := ⟨_, rfl⟩
 have HFD : Hid (∀ W, Below w2.heap.size w2 W → Calls Try.prog 14 #[.slice A2 n2 c2, .string r.1.1, .int .i64 r.1.2.1, .int .i64 r.1.2.2] W fun e w' => e = .returned (.tuple #[.int .i64 ((rtF R r.1).getD 0), .bool F]) ∧ Below W.heap.size W w') := Lib.hid (fun W h => by rw [← hF, ← HN2.out]; exact rfind16_any A2 c2 R r.1 W (HR2.out.up h) (by have := HN2.out; have := HHR.out; omega))
 have HBC : Hid (Below w2.heap.size w2 w2) := Lib.hid (Below.refl _ _)
 have HLT : Hid ((Instr.loadAt 36 (.pointer (some ⟨s0, 0, none⟩))).run Try.prog w2 = .ok (refV g (.slice A1 n1 c1) (.slice A2 n2 c2)) w2 → True) := Lib.hid (fun _ => trivial)
 obtain ⟨H2, hH2⟩ : ∃ H2, H ++ [r] = H2 := ⟨_, rfl⟩
 obtain ⟨M, hM⟩ : ∃ M, putR R r = M := ⟨_, rfl⟩
 have HH2 := Lib.hid hH2
 have HMP : Hid (0 < M.length) := Lib.hid (by rw [← hM]; exact List.length_pos_of_mem ((putR_mem ha r r).2 (.inl rfl)))
 have HPQ : Hid (∀ W, Below w2.heap.size w2 W → Calls Try.prog 36 #[.slice A2 n2 c2, rtVl r] W fun e w' => (∃ A' c', e = .returned (.slice A' M.length c') ∧ OwnR lyT 24 w' W.heap.size (.slice A' M.length c') M) ∧ Below W.heap.size W w') := Lib.hid (fun W h => by rw [← hM, ← HN2.out]; exact rput16_any A2 c2 R r W (HR2.out.up h) (by have := HN2.out; have := HHR.out; omega) ha)
 rw [hp, hH2, hM]
 clear h1 h2 ha hH hR hr hp hF hn1 hn2 HLT hH2 hM
 have e0 := (HXT.out.up HBC.out).at 0 _ rfl; have e1 := (HXT.out.up HBC.out).at 1 _ rfl; have e2 := (HXT.out.up HBC.out).at 2 _ rfl; have f0 := (HXR.out.up HBC.out).at 0 _ rfl; have f1 := (HXR.out.up HBC.out).at 1 _ rfl; have f2 := (HXR.out.up HBC.out).at 2 _ rfl
 cases p
 ·go_enter Try.func21, Try.ntmps21
  go_wp2_with (first
   | (refine wpList_load_is rfl 24 _ rfl (.pointer (some ⟨s0 + 1, 0, none⟩)) rfl (rtVl r) (rate_load (HXR.out.up HBC.out)) ?_)
   | (go_at_call 35; refine (HPR.out _).mono ?_; rintro q w3 ⟨rfl, hb⟩; have hB3 := Lib.hid (HBC.out.trans (hb.mono HBC.out.size)); clear HBC; have HBC := hB3; clear hB3 hb; clear e0 e1 e2 f0 f1 f2; have e0 := (HXT.out.up HBC.out).at 0 _ rfl; have e1 := (HXT.out.up HBC.out).at 1 _ rfl; have e2 := (HXT.out.up HBC.out).at 2 _ rfl; have f0 := (HXR.out.up HBC.out).at 0 _ rfl; have f1 := (HXR.out.up HBC.out).at 1 _ rfl; have f2 := (HXR.out.up HBC.out).at 2 _ rfl)
   | (refine wpList_load_is rfl 36 _ rfl (.pointer (some ⟨s0, 0, none⟩)) rfl (refV g (.slice A1 n1 c1) (.slice A2 n2 c2)) ((HXT.out.up HBC.out).rg.load 0 36 [.string g, .slice A1 n1 c1, .slice A2 n2 c2] rfl _ Try.underlying36 rfl (by kernel_rfl)) ?_)
   | (refine wpList_store_wh rfl 36 _ _ rfl (s0 + 2) rfl 36 rfz [.string g, .slice A1 n1 c1, .slice A2 n2 c2] rfl (HRC.out.up HBC.out) rfl (by kernel_rfl) (by kernel_rfl) ?_; intro w8 hr8 ho8 hz8; have HR8 := Lib.hid hr8.out; have HE8 : Hid (Below w.heap.size w w8) := Lib.hid ((HB2.out.trans (HBC.out.mono HB2.out.size)).trans (ho8.out.below (fun k e => by have := HS0.out; omega) (Nat.le_trans HB2.out.size HBC.out.size))); clear hr8 ho8 hz8))
  obtain ⟨z0, z1, z2⟩ : w8.cell? ⟨s0 + 2, 0, none⟩ = some (.string g) ∧ w8.cell? ⟨s0 + 2, 1, none⟩ = some (.slice A1 n1 c1) ∧ w8.cell? ⟨s0 + 2, 2, none⟩ = some (.slice A2 n2 c2) := ⟨HR8.out.at 0 _ rfl, HR8.out.at 1 _ rfl, HR8.out.at 2 _ rfl⟩
  exact bodyPost_ret (v := .tuple #[refV g (.slice A1 n1 c1) (.slice A2 n2 c2), .int .i64 1]) (by simp [results, Try.results21, go_sem, z0, z1, z2]) rfl ⟨by simp, by first | exact HE8.out | (rw [← HS0.out]; exact HE8.out)⟩
 ·have q1 : decide ((1000 : Int) ≤ (n2 : Int)) = false := decide_eq_false (by have := HHR.out; omega)
  have q2 : decide ((5000 : Int) ≤ (n1 : Int)) = false := decide_eq_false (by have := HH.out; omega)
  have q3 : decide ((n2 : Int) ≥ 1000) = false := q1
  have q4 : decide ((n1 : Int) ≥ 5000) = false := q2
  have HM1 : Hid True := Lib.hid trivial
  go_enter Try.func21, Try.ntmps21
  go_upto_region 4 with (first
   | (clear HM1; refine wpList_load_is rfl 24 _ rfl (.pointer (some ⟨s0 + 1, 0, none⟩)) rfl (rtVl r) (rate_load (HXR.out.up HBC.out)) ?_)
   | (go_at_call 35; refine (HPR.out _).mono ?_; rintro q w3 ⟨rfl, hb⟩; have hB3 := Lib.hid (HBC.out.trans (hb.mono HBC.out.size)); clear HBC; have HBC := hB3; clear hB3 hb; clear e0 e1 e2 f0 f1 f2; have e0 := (HXT.out.up HBC.out).at 0 _ rfl; have e1 := (HXT.out.up HBC.out).at 1 _ rfl; have e2 := (HXT.out.up HBC.out).at 2 _ rfl; have f0 := (HXR.out.up HBC.out).at 0 _ rfl; have f1 := (HXR.out.up HBC.out).at 1 _ rfl; have f2 := (HXR.out.up HBC.out).at 2 _ rfl)
   | (go_at_call 14; refine (HFD.out _ HBC.out).mono ?_; rintro q w4 ⟨rfl, hb⟩; have hB3 := Lib.hid (HBC.out.trans (hb.mono HBC.out.size)); clear HBC; have HBC := hB3; clear hB3 hb; clear e0 e1 e2 f0 f1 f2; have e0 := (HXT.out.up HBC.out).at 0 _ rfl; have e1 := (HXT.out.up HBC.out).at 1 _ rfl; have e2 := (HXT.out.up HBC.out).at 2 _ rfl; have f0 := (HXR.out.up HBC.out).at 0 _ rfl; have f1 := (HXR.out.up HBC.out).at 1 _ rfl; have f2 := (HXR.out.up HBC.out).at 2 _ rfl))
  obtain ⟨B3, hB3⟩ : ∃ B3, w4.heap.size = B3 := ⟨_, rfl⟩
  have HB3E := Lib.hid hB3
  have hxt := Lib.hid (HXT.out.up HBC.out)
  have hxr := Lib.hid (HXR.out.up HBC.out)
  have hrc := Lib.hid (HRC.out.up HBC.out)
  have hr1 := Lib.hid (HR1.out.up HBC.out)
  have HPU : Hid (∀ W, Below w4.heap.size w4 W → Calls Try.prog 36 #[.slice A2 n2 c2, rtVl r] W fun e w' => (∃ A' c', e = .returned (.slice A' M.length c') ∧ OwnR lyT 24 w' W.heap.size (.slice A' M.length c') M) ∧ Below W.heap.size W w') := Lib.hid (fun W h => HPQ.out W (HBC.out.trans (h.mono HBC.out.size)))
  have HS4 : Hid (s0 + 2 < w4.heap.size) := Lib.hid (by have := HSZ2.out; have := HBC.out.size; omega)
  clear hB3 HXT HXR HRC HR1
  have HXT := hxt
  have HXR := hxr
  have HRC := hrc
  have HR1 := hr1
  clear hxt hxr hrc hr1
  cases F
  ·go_upto_region 6 with fail
   clear e0 e1 e2 f0 f1 f2 q1 q2 q3 q4
   refine AL.region_facts (Rp := Below0) (Kp := KpA) (rtseL g s0 B3 n1 c1 n2 c2 A1 A2 r H2 M) (sJ g w4 (s0 + 2) H H2 M) [[], [41], [], [], [44], [43, 45], [], [47], [46, 48], [], [50], [], [51, 52], [42, 49, 53], [54], []] [5, 8, 14] [[], [46], [46, 49], [46, 49, 46]] [2, 2, 2, 2, 2, 2, 2, 2, 2, 2, 2, 2, 2, 2, 3, 3] [0, 0, 0, 0, 0, 0, 0, 0, 0, 0, 0, 0, 0, 2, 0, 0] [] (fun u => by simp only [rtseL, AL.temps, List.map_cons, List.map_nil, fillL, List.setIfInBounds_toArray, List.set_cons_zero, List.set_cons_succ]; rfl) (by kernel_rfl) (by kernel_rfl) (fun _ _ _ _ h => h.size) (fun _ _ _ h => KpA.of h) (sJ.st _ _ _ _ _ _) (dc_drew (Below.refl _ _)) ?_ ?_
   ·refine AL.sc (lim := 2) (lo := 0) rfl rfl rfl rfl ?_ ?_
    ·intro k_ u w_ hk_ hl_ hJ hF K hK
     clear hF
     go_simp
     exact hK.out _ _ (Below.refl _ _) (rfl) trivial
    refine AL.sc (lim := 2) (lo := 0) rfl rfl rfl rfl ?_ ?_
    ·intro k_ u w_ hk_ hl_ hJ hF K hK
     have h41 : u 41 = .pointer (some ⟨s0, 0, none⟩) := AL.facts_get hF 41 (by simp)
     clear hF
     simp only [h41] at hK ⊢
     clear h41
     have d_ := (HXT.out.up (hJ.low hk_)).at 0 _ rfl
     go_simp
     exact hK.out _ _ (Below.refl _ _) (rfl) trivial
    refine AL.sc (lim := 2) (lo := 0) rfl rfl rfl rfl ?_ ?_
    ·intro k_ u w_ hk_ hl_ hJ hF K hK
     clear hF
     go_simp
     exact hK.out _ _ (below_alloc_new _) (fun _ => nilT_new (by rw [← HB3E.out]; exact (hJ.low hk_).size)) trivial
    refine AL.sc (lim := 2) (lo := 0) rfl rfl rfl rfl ?_ ?_
    ·intro k_ u w_ hk_ hl_ hJ hF K hK
     clear hF
     go_simp
     exact hK.out _ _ (Below.refl _ _) (rfl) trivial
    refine AL.sc (lim := 2) (lo := 0) rfl rfl rfl rfl ?_ ?_
    ·intro k_ u w_ hk_ hl_ hJ hF K hK
     have h44 : u 44 = .pointer (some ⟨s0, 1, none⟩) := AL.facts_get hF 44 (by simp)
     clear hF
     simp only [h44] at hK ⊢
     clear h44
     have d_ := (HXT.out.up (hJ.low hk_)).at 1 _ rfl
     go_simp
     exact hK.out _ _ (Below.refl _ _) (rfl) trivial
    refine AL.ss rfl rfl ?_ ?_
    ·intro u w_ hJ hA_ hF K hK
     have h43 : NilA B3 [] (u 43) w_ := AL.facts_get hF 43 (by simp)
     have h45 : u 45 = .slice A1 n1 c1 := AL.facts_get hF 45 (by simp)
     clear hF
     obtain ⟨b43, h43, hb43, hw43⟩ := h43 rfl
     simp only [h43, h45] at hK ⊢
     clear h43 h45
     refine wp_app_row (R := lyT) (v := .slice (some ⟨b43, 0, none⟩) 0 0) (.tmp 43) (.tmp 45) 22 rfl i0 _ 40 Try.underlying22 hiI hz1 hz2 hz3 (by omega) rfl rfl (ownWh0 hw43 hb43) A1 n1 c1 H HN1.out rfl (HR1.out.up hJ) (by have := HH.out; simp; omega) (by rw [← HB3E.out]; exact Below.size hJ) ?_
     intro v' w' ho' hg' hn'
     rw [List.nil_append] at ho'
     rw [← HB3E.out] at ho' hb43
     have hb' : Below w4.heap.size w_ w' := (Below.refl _ _).grown hg'.out (Below.size hJ) (fun q hq => by cases hq; exact hb43)
     exact hK.out _ _ ⟨Below.trans hJ hb', own1_lt ho'.out, fun x hx => by cases hx; exact ho'.out⟩ (kpA46 hw43 hg'.out hn'.out) trivial
    refine AL.sc (lim := 2) (lo := 0) rfl rfl rfl rfl ?_ ?_
    ·intro k_ u w_ hk_ hl_ hJ hF K hK
     clear hF
     refine wp_load_is 24 _ rfl _ rfl (rtVl r) (rate_load (HXR.out.up (hJ.low hk_))) ?_
     exact hK.out _ _ (Below.refl _ _) (rfl) trivial
    refine AL.sc (lim := 2) (lo := 0) rfl rfl rfl rfl ?_ ?_
    ·intro k_ u w_ hk_ hl_ hJ hF K hK
     have h47 : u 47 = rtVl r := AL.facts_get hF 47 (by simp)
     clear hF
     simp only [h47] at hK ⊢
     clear h47
     go_simp
     exact hK.out _ _ (below_alloc_new _) ⟨_, rfl, Wh.new w_ 24 (rtC r), fun x hx e => by have h9 := hJ.lt hk_ rfl x hx _ e; omega⟩ trivial
    refine AL.ss rfl rfl ?_ ?_
    ·intro u w_ hJ hA_ hF K hK
     have h48 : BoxA r [u 46] (u 48) w_ := AL.facts_get hF 48 (by simp)
     clear hF
     obtain ⟨b48, h48, hw48, ha48⟩ := h48
     have hv9 := hJ.2.2 _ rfl
     simp only [h48] at hK ⊢
     clear h48
     refine wp_app_row (R := lyT) (v := u 46) (.tmp 46) (.tmp 48) 22 rfl i0 _ 40 Try.underlying22 hiI hz1 hz2 hz3 (by omega) rfl rfl hv9 (some ⟨b48, 0, none⟩) 1 1 [r] rfl rfl (row_one (R := lyT) (x := r) hw48) (by have := HH.out; have := HN1.out; omega) hJ.1.size ?_
     intro v' w' ho' hg' hn'
     rw [HH2.out] at ho'
     have hb' : Below w4.heap.size w_ w' := (Below.refl _ _).grown hg'.out hJ.1.size (fun q hq => (hv9.lt hq).1)
     have hl' := own2_lt (fun b e => Nat.lt_of_lt_of_le (hv9.lt e).2 hg'.out.size) ho'.out
     exact hK.out _ _ ⟨hJ.1.trans hb', hl', fun x y hx => by cases hx; exact ho'.out⟩ (kpA49 hg'.out hn'.out) trivial
    refine AL.sc (lim := 2) (lo := 0) rfl rfl rfl rfl ?_ ?_
    ·intro k_ u w_ hk_ hl_ hJ hF K hK
     clear hF
     go_simp
     exact hK.out _ _ (Below.refl _ _) (rfl) trivial
    refine AL.sc (lim := 2) (lo := 0) rfl rfl rfl rfl ?_ ?_
    ·intro k_ u w_ hk_ hl_ hJ hF K hK
     have h50 : u 50 = .pointer (some ⟨s0, 2, none⟩) := AL.facts_get hF 50 (by simp)
     clear hF
     simp only [h50] at hK ⊢
     clear h50
     have d_ := (HXT.out.up (hJ.low hk_)).at 2 _ rfl
     go_simp
     exact hK.out _ _ (Below.refl _ _) (rfl) trivial
    refine AL.sc (lim := 2) (lo := 0) rfl rfl rfl rfl ?_ ?_
    ·intro k_ u w_ hk_ hl_ hJ hF K hK
     clear hF
     refine wp_load_is 24 _ rfl _ rfl (rtVl r) (rate_load (HXR.out.up (hJ.low hk_))) ?_
     exact hK.out _ _ (Below.refl _ _) (rfl) trivial
    refine AL.sc (lim := 2) (lo := 0) rfl rfl rfl rfl ?_ ?_
    ·intro k_ u w_ hk_ hl_ hJ hF K hK
     have h51 : u 51 = .slice A2 n2 c2 := AL.facts_get hF 51 (by simp)
     have h52 : u 52 = rtVl r := AL.facts_get hF 52 (by simp)
     clear hF
     simp only [h51, h52] at hK ⊢
     clear h51 h52
     go_simp
     refine (HPU.out w_ (hJ.low hk_)).mono ?_
     rintro e w6 ⟨⟨A6, c6, rfl, ho⟩, hb6⟩
     exact hK.out _ _ hb6 ⟨HMP.out, A6, c6, rfl, ho.low (by rw [← HB3E.out]; exact (hJ.low hk_).size), fun x hx b e1 e2 => by have h1 := hJ.lt hk_ rfl x hx b e1; have h2 := (ho.lt e2).1; omega⟩ trivial
    refine AL.sc (lim := 2) (lo := 2) rfl rfl rfl rfl ?_ ?_
    ·intro k_ u w_ hk_ hl_ hJ hF K hK
     obtain rfl : k_ = 2 := by omega
     have h42 : u 42 = .string g := AL.facts_get hF 42 (by simp)
     have h53 : PutA B3 M [u 46, u 49] (u 53) w_ := AL.facts_get hF 53 (by simp)
     clear hF
     obtain ⟨hm53, A53, c53, h53, ho53, ha53⟩ := h53
     have hx9 := hJ.2.2 _ _ rfl
     obtain ⟨A9, c9, e9, -, -⟩ := hx9.reads
     rw [e9, HB3E.out] at hx9
     simp only [h42, h53, e9] at hK ⊢
     clear h42 h53 e9
     refine wp_build_is 36 _ rfl [(0, .string g), (1, .slice A9 H2.length c9), (2, .slice A53 M.length c53)] rfl (refV g (.slice A9 H2.length c9) (.slice A53 M.length c53)) (run_build _ 36 _ _ (by kernel_rfl)) ?_
     exact hK.out _ _ (Below.refl _ _) ⟨Nat.le_refl _, A9, c9, A53, c53, rfl, hx9, ho53⟩ trivial
    refine AL.ss rfl rfl ?_ ?_
    ·intro u w_ hJ hA_ hF K hK
     have h54 : AgA g B3 H2 M [u 46, u 49] (u 54) w_ := AL.facts_get hF 54 (by simp)
     clear hF
     obtain ⟨-, A9, c9, A53, c53, h54, hx54, hy54⟩ := h54
     simp only [h54] at hK ⊢
     clear h54
     rw [← HB3E.out] at hx54 hy54
     refine wp_store_wh 36 (.tmp 4) (.tmp 54) rfl (s0 + 2) rfl 36 rfz [.string g, .slice A9 H2.length c9, .slice A53 M.length c53] rfl (HRC.out.up hJ.1) rfl (by kernel_rfl) (by kernel_rfl) ?_
     intro w8 hr8 ho8 hz8
     have hx8 := hx54.blk fun q hq => ho8.out.blk q (hx54.lt hq).2 (fun e => by have h1 := (hx54.lt hq).1; have h2 := HS4.out; have h3 : q = s0 + 2 := e; omega)
     have hy8 := hy54.blk fun q hq => ho8.out.blk q (hy54.lt hq).2 (fun e => by have h1 := (hy54.lt hq).1; have h2 := HS4.out; have h3 : q = s0 + 2 := e; omega)
     exact hK.out _ _ ⟨(Only.of hJ.1).trans (ho8.out.wide (fun q _ h => .inl h)), A9, c9, A53, c53, hr8.out, hx8, hy8⟩ (kpA55 (HRC.out.up hJ.1) ho8.out) trivial
    refine AL.sc (lim := 3) (lo := 0) rfl rfl rfl rfl ?_ ?_
    ·intro k_ u w_ hk_ hl_ hJ hF K hK
     clear hF
     go_simp
     exact hK.out _ _ (Below.refl _ _) (rfl) trivial
    exact AL.StepsOk.nil
   ·intro u W9 hJ9 hF
    have h5 : u 5 = .int .i64 0 := AL.facts_get hF 5 (by simp [rtseL, AL.temps])
    clear hF
    obtain ⟨hO9, A9, c9, A53, c53, hw9, hx9, hy9⟩ := hJ9
    have HE9 : Hid (Below w.heap.size w W9) := Lib.hid ((HB2.out.trans (HBC.out.mono HB2.out.size)).trans (hO9.below (fun k e => by have := HS0.out; have := HB2.out.size; have := HBC.out.size; rcases e with e | e <;> omega) (Nat.le_trans HB2.out.size HBC.out.size)))
    have hxr := Lib.hid (hx9.low (Nat.le_trans HB2.out.size HBC.out.size))
    have hyr := Lib.hid (hy9.low (Nat.le_trans HB2.out.size HBC.out.size))
    obtain ⟨z0, z1, z2⟩ : W9.cell? ⟨s0 + 2, 0, none⟩ = some (.string g) ∧ W9.cell? ⟨s0 + 2, 1, none⟩ = some (.slice A9 H2.length c9) ∧ W9.cell? ⟨s0 + 2, 2, none⟩ = some (.slice A53 M.length c53) := ⟨hw9.at 0 _ rfl, hw9.at 1 _ rfl, hw9.at 2 _ rfl⟩
    simp only [h5]
    clear hO9 hw9 hx9 hy9
    go_wp2_with fail
    exact bodyPost_ret (v := .tuple #[refV g (.slice A9 H2.length c9) (.slice A53 M.length c53), .int .i64 0]) (by simp [results, Try.results21, go_sem, z0, z1, z2]) rfl ⟨by first | exact ⟨A9, c9, A53, c53, rfl, hxr.out, hyr.out⟩ | (rw [← HS0.out]; exact ⟨A9, c9, A53, c53, rfl, hxr.out, hyr.out⟩), by first | exact HE9.out | (rw [← HS0.out]; exact HE9.out)⟩
  ·go_upto_region 6 with fail
   clear e0 e1 e2 f0 f1 f2 q1 q2 q3 q4
   refine AL.region_facts (Rp := Below0) (Kp := KpA) (rtseL g s0 B3 n1 c1 n2 c2 A1 A2 r H2 M) (sJ g w4 (s0 + 2) H H2 M) [[], [41], [], [], [44], [43, 45], [], [47], [46, 48], [], [50], [], [51, 52], [42, 49, 53], [54], []] [5, 8, 14] [[], [46], [46, 49], [46, 49, 46]] [2, 2, 2, 2, 2, 2, 2, 2, 2, 2, 2, 2, 2, 2, 3, 3] [0, 0, 0, 0, 0, 0, 0, 0, 0, 0, 0, 0, 0, 2, 0, 0] [] (fun u => by simp only [rtseL, AL.temps, List.map_cons, List.map_nil, fillL, List.setIfInBounds_toArray, List.set_cons_zero, List.set_cons_succ]; rfl) (by kernel_rfl) (by kernel_rfl) (fun _ _ _ _ h => h.size) (fun _ _ _ h => KpA.of h) (sJ.st _ _ _ _ _ _) (dc_drew (Below.refl _ _)) ?_ ?_
   ·refine AL.sc (lim := 2) (lo := 0) rfl rfl rfl rfl ?_ ?_
    ·intro k_ u w_ hk_ hl_ hJ hF K hK
     clear hF
     go_simp
     exact hK.out _ _ (Below.refl _ _) (rfl) trivial
    refine AL.sc (lim := 2) (lo := 0) rfl rfl rfl rfl ?_ ?_
    ·intro k_ u w_ hk_ hl_ hJ hF K hK
     have h41 : u 41 = .pointer (some ⟨s0, 0, none⟩) := AL.facts_get hF 41 (by simp)
     clear hF
     simp only [h41] at hK ⊢
     clear h41
     have d_ := (HXT.out.up (hJ.low hk_)).at 0 _ rfl
     go_simp
     exact hK.out _ _ (Below.refl _ _) (rfl) trivial
    refine AL.sc (lim := 2) (lo := 0) rfl rfl rfl rfl ?_ ?_
    ·intro k_ u w_ hk_ hl_ hJ hF K hK
     clear hF
     go_simp
     exact hK.out _ _ (below_alloc_new _) (fun _ => nilT_new (by rw [← HB3E.out]; exact (hJ.low hk_).size)) trivial
    refine AL.sc (lim := 2) (lo := 0) rfl rfl rfl rfl ?_ ?_
    ·intro k_ u w_ hk_ hl_ hJ hF K hK
     clear hF
     go_simp
     exact hK.out _ _ (Below.refl _ _) (rfl) trivial
    refine AL.sc (lim := 2) (lo := 0) rfl rfl rfl rfl ?_ ?_
    ·intro k_ u w_ hk_ hl_ hJ hF K hK
     have h44 : u 44 = .pointer (some ⟨s0, 1, none⟩) := AL.facts_get hF 44 (by simp)
     clear hF
     simp only [h44] at hK ⊢
     clear h44
     have d_ := (HXT.out.up (hJ.low hk_)).at 1 _ rfl
     go_simp
     exact hK.out _ _ (Below.refl _ _) (rfl) trivial
    refine AL.ss rfl rfl ?_ ?_
    ·intro u w_ hJ hA_ hF K hK
     have h43 : NilA B3 [] (u 43) w_ := AL.facts_get hF 43 (by simp)
     have h45 : u 45 = .slice A1 n1 c1 := AL.facts_get hF 45 (by simp)
     clear hF
     obtain ⟨b43, h43, hb43, hw43⟩ := h43 rfl
     simp only [h43, h45] at hK ⊢
     clear h43 h45
     refine wp_app_row (R := lyT) (v := .slice (some ⟨b43, 0, none⟩) 0 0) (.tmp 43) (.tmp 45) 22 rfl i0 _ 40 Try.underlying22 hiI hz1 hz2 hz3 (by omega) rfl rfl (ownWh0 hw43 hb43) A1 n1 c1 H HN1.out rfl (HR1.out.up hJ) (by have := HH.out; simp; omega) (by rw [← HB3E.out]; exact Below.size hJ) ?_
     intro v' w' ho' hg' hn'
     rw [List.nil_append] at ho'
     rw [← HB3E.out] at ho' hb43
     have hb' : Below w4.heap.size w_ w' := (Below.refl _ _).grown hg'.out (Below.size hJ) (fun q hq => by cases hq; exact hb43)
     exact hK.out _ _ ⟨Below.trans hJ hb', own1_lt ho'.out, fun x hx => by cases hx; exact ho'.out⟩ (kpA46 hw43 hg'.out hn'.out) trivial
    refine AL.sc (lim := 2) (lo := 0) rfl rfl rfl rfl ?_ ?_
    ·intro k_ u w_ hk_ hl_ hJ hF K hK
     clear hF
     refine wp_load_is 24 _ rfl _ rfl (rtVl r) (rate_load (HXR.out.up (hJ.low hk_))) ?_
     exact hK.out _ _ (Below.refl _ _) (rfl) trivial
    refine AL.sc (lim := 2) (lo := 0) rfl rfl rfl rfl ?_ ?_
    ·intro k_ u w_ hk_ hl_ hJ hF K hK
     have h47 : u 47 = rtVl r := AL.facts_get hF 47 (by simp)
     clear hF
     simp only [h47] at hK ⊢
     clear h47
     go_simp
     exact hK.out _ _ (below_alloc_new _) ⟨_, rfl, Wh.new w_ 24 (rtC r), fun x hx e => by have h9 := hJ.lt hk_ rfl x hx _ e; omega⟩ trivial
    refine AL.ss rfl rfl ?_ ?_
    ·intro u w_ hJ hA_ hF K hK
     have h48 : BoxA r [u 46] (u 48) w_ := AL.facts_get hF 48 (by simp)
     clear hF
     obtain ⟨b48, h48, hw48, ha48⟩ := h48
     have hv9 := hJ.2.2 _ rfl
     simp only [h48] at hK ⊢
     clear h48
     refine wp_app_row (R := lyT) (v := u 46) (.tmp 46) (.tmp 48) 22 rfl i0 _ 40 Try.underlying22 hiI hz1 hz2 hz3 (by omega) rfl rfl hv9 (some ⟨b48, 0, none⟩) 1 1 [r] rfl rfl (row_one (R := lyT) (x := r) hw48) (by have := HH.out; have := HN1.out; omega) hJ.1.size ?_
     intro v' w' ho' hg' hn'
     rw [HH2.out] at ho'
     have hb' : Below w4.heap.size w_ w' := (Below.refl _ _).grown hg'.out hJ.1.size (fun q hq => (hv9.lt hq).1)
     have hl' := own2_lt (fun b e => Nat.lt_of_lt_of_le (hv9.lt e).2 hg'.out.size) ho'.out
     exact hK.out _ _ ⟨hJ.1.trans hb', hl', fun x y hx => by cases hx; exact ho'.out⟩ (kpA49 hg'.out hn'.out) trivial
    refine AL.sc (lim := 2) (lo := 0) rfl rfl rfl rfl ?_ ?_
    ·intro k_ u w_ hk_ hl_ hJ hF K hK
     clear hF
     go_simp
     exact hK.out _ _ (Below.refl _ _) (rfl) trivial
    refine AL.sc (lim := 2) (lo := 0) rfl rfl rfl rfl ?_ ?_
    ·intro k_ u w_ hk_ hl_ hJ hF K hK
     have h50 : u 50 = .pointer (some ⟨s0, 2, none⟩) := AL.facts_get hF 50 (by simp)
     clear hF
     simp only [h50] at hK ⊢
     clear h50
     have d_ := (HXT.out.up (hJ.low hk_)).at 2 _ rfl
     go_simp
     exact hK.out _ _ (Below.refl _ _) (rfl) trivial
    refine AL.sc (lim := 2) (lo := 0) rfl rfl rfl rfl ?_ ?_
    ·intro k_ u w_ hk_ hl_ hJ hF K hK
     clear hF
     refine wp_load_is 24 _ rfl _ rfl (rtVl r) (rate_load (HXR.out.up (hJ.low hk_))) ?_
     exact hK.out _ _ (Below.refl _ _) (rfl) trivial
    refine AL.sc (lim := 2) (lo := 0) rfl rfl rfl rfl ?_ ?_
    ·intro k_ u w_ hk_ hl_ hJ hF K hK
     have h51 : u 51 = .slice A2 n2 c2 := AL.facts_get hF 51 (by simp)
     have h52 : u 52 = rtVl r := AL.facts_get hF 52 (by simp)
     clear hF
     simp only [h51, h52] at hK ⊢
     clear h51 h52
     go_simp
     refine (HPU.out w_ (hJ.low hk_)).mono ?_
     rintro e w6 ⟨⟨A6, c6, rfl, ho⟩, hb6⟩
     exact hK.out _ _ hb6 ⟨HMP.out, A6, c6, rfl, ho.low (by rw [← HB3E.out]; exact (hJ.low hk_).size), fun x hx b e1 e2 => by have h1 := hJ.lt hk_ rfl x hx b e1; have h2 := (ho.lt e2).1; omega⟩ trivial
    refine AL.sc (lim := 2) (lo := 2) rfl rfl rfl rfl ?_ ?_
    ·intro k_ u w_ hk_ hl_ hJ hF K hK
     obtain rfl : k_ = 2 := by omega
     have h42 : u 42 = .string g := AL.facts_get hF 42 (by simp)
     have h53 : PutA B3 M [u 46, u 49] (u 53) w_ := AL.facts_get hF 53 (by simp)
     clear hF
     obtain ⟨hm53, A53, c53, h53, ho53, ha53⟩ := h53
     have hx9 := hJ.2.2 _ _ rfl
     obtain ⟨A9, c9, e9, -, -⟩ := hx9.reads
     rw [e9, HB3E.out] at hx9
     simp only [h42, h53, e9] at hK ⊢
     clear h42 h53 e9
     refine wp_build_is 36 _ rfl [(0, .string g), (1, .slice A9 H2.length c9), (2, .slice A53 M.length c53)] rfl (refV g (.slice A9 H2.length c9) (.slice A53 M.length c53)) (run_build _ 36 _ _ (by kernel_rfl)) ?_
     exact hK.out _ _ (Below.refl _ _) ⟨Nat.le_refl _, A9, c9, A53, c53, rfl, hx9, ho53⟩ trivial
    refine AL.ss rfl rfl ?_ ?_
    ·intro u w_ hJ hA_ hF K hK
     have h54 : AgA g B3 H2 M [u 46, u 49] (u 54) w_ := AL.facts_get hF 54 (by simp)
     clear hF
     obtain ⟨-, A9, c9, A53, c53, h54, hx54, hy54⟩ := h54
     simp only [h54] at hK ⊢
     clear h54
     rw [← HB3E.out] at hx54 hy54
     refine wp_store_wh 36 (.tmp 4) (.tmp 54) rfl (s0 + 2) rfl 36 rfz [.string g, .slice A9 H2.length c9, .slice A53 M.length c53] rfl (HRC.out.up hJ.1) rfl (by kernel_rfl) (by kernel_rfl) ?_
     intro w8 hr8 ho8 hz8
     have hx8 := hx54.blk fun q hq => ho8.out.blk q (hx54.lt hq).2 (fun e => by have h1 := (hx54.lt hq).1; have h2 := HS4.out; have h3 : q = s0 + 2 := e; omega)
     have hy8 := hy54.blk fun q hq => ho8.out.blk q (hy54.lt hq).2 (fun e => by have h1 := (hy54.lt hq).1; have h2 := HS4.out; have h3 : q = s0 + 2 := e; omega)
     exact hK.out _ _ ⟨(Only.of hJ.1).trans (ho8.out.wide (fun q _ h => .inl h)), A9, c9, A53, c53, hr8.out, hx8, hy8⟩ (kpA55 (HRC.out.up hJ.1) ho8.out) trivial
    refine AL.sc (lim := 3) (lo := 0) rfl rfl rfl rfl ?_ ?_
    ·intro k_ u w_ hk_ hl_ hJ hF K hK
     clear hF
     go_simp
     exact hK.out _ _ (Below.refl _ _) (rfl) trivial
    exact AL.StepsOk.nil
   ·intro u W9 hJ9 hF
    have h5 : u 5 = .int .i64 0 := AL.facts_get hF 5 (by simp [rtseL, AL.temps])
    clear hF
    obtain ⟨hO9, A9, c9, A53, c53, hw9, hx9, hy9⟩ := hJ9
    have HE9 : Hid (Below w.heap.size w W9) := Lib.hid ((HB2.out.trans (HBC.out.mono HB2.out.size)).trans (hO9.below (fun k e => by have := HS0.out; have := HB2.out.size; have := HBC.out.size; rcases e with e | e <;> omega) (Nat.le_trans HB2.out.size HBC.out.size)))
    have hxr := Lib.hid (hx9.low (Nat.le_trans HB2.out.size HBC.out.size))
    have hyr := Lib.hid (hy9.low (Nat.le_trans HB2.out.size HBC.out.size))
    obtain ⟨z0, z1, z2⟩ : W9.cell? ⟨s0 + 2, 0, none⟩ = some (.string g) ∧ W9.cell? ⟨s0 + 2, 1, none⟩ = some (.slice A9 H2.length c9) ∧ W9.cell? ⟨s0 + 2, 2, none⟩ = some (.slice A53 M.length c53) := ⟨hw9.at 0 _ rfl, hw9.at 1 _ rfl, hw9.at 2 _ rfl⟩
    simp only [h5]
    clear hO9 hw9 hx9 hy9
    go_wp2_with fail
    exact bodyPost_ret (v := .tuple #[refV g (.slice A9 H2.length c9) (.slice A53 M.length c53), .int .i64 0]) (by simp [results, Try.results21, go_sem, z0, z1, z2]) rfl ⟨by first | exact ⟨A9, c9, A53, c53, rfl, hxr.out, hyr.out⟩ | (rw [← HS0.out]; exact ⟨A9, c9, A53, c53, rfl, hxr.out, hyr.out⟩), by first | exact HE9.out | (rw [← HS0.out]; exact HE9.out)⟩
def RefA (g : ByteArray) (B : Nat) (T : Nat → Prop) (H : List Rt) (v : Value) (w : World) : Prop := ∃ A c A' c', v = refV g (.slice A H.length c) (.slice A' (rtL H).length c') ∧ OwnR lyT 24 w B (.slice A H.length c) H ∧ OwnR lyT 24 w B (.slice A' (rtL H).length c') (rtL H) ∧ ∀ q, T q → (Value.slice A H.length c).ownBlock ≠ some q ∧ (Value.slice A' (rtL H).length c').ownBlock ≠ some q
def KpR (W W' : World) : Prop := W.heap.size ≤ W'.heap.size ∧ ∀ (b : Nat) (cs : Array Value), W.heap[b]? = some (Obj.cells cs 24) → W'.heap[b]? = W.heap[b]?
theorem KpR.of {W W' : World} (hb : Below W.heap.size W W') : KpR W W' := ⟨hb.size, fun b _ h => hb.block b (blk_lt h)⟩
theorem KpR.own {W W' : World} {B : Nat} {v : Value} {L : List Rt} (h : KpR W W') (ho : OwnR lyT 24 W B v L) : OwnR lyT 24 W' B v L := ho.blk fun q hq => by
 obtain ⟨cs, h4, -⟩ := ownR_blk ho hq
 exact h.2 q cs h4
theorem KpR.store {W W' : World} {s4 : Nat} {cs : List Value} (hw : Wh 36 W s4 cs) (ho : Only (fun k => k = s4) W W') : KpR W W' := ⟨ho.size, fun b cs' h => ho.blk b (blk_lt h) (fun e => by
 have e2 : b = s4 := e
 subst e2
 rw [hw.blk] at h
 injection h with h
 injection h with _ h
 exact absurd h (by decide))⟩
theorem RefA.kp {g : ByteArray} {B : Nat} {T : Nat → Prop} {H : List Rt} {v : Value} {w w' : World} (h : RefA g B T H v w) (hk : KpR w w') : RefA g B T H v w' := by
 obtain ⟨A, c, A', c', h1, h2, h3, h4⟩ := h
 exact ⟨A, c, A', c', h1, hk.own h2, hk.own h3, h4⟩
theorem RefA.up {g : ByteArray} {B : Nat} {T : Nat → Prop} {H : List Rt} {v : Value} {w w' : World} (h : RefA g B T H v w) (hb : Below w.heap.size w w') : RefA g B T H v w' := h.kp (KpR.of hb)
theorem RefA.only {g : ByteArray} {B : Nat} {T S : Nat → Prop} {H : List Rt} {v : Value} {w w' : World} (h : RefA g B T H v w) (ho : Only T w w') (hS : ∀ q, S q → T q ∨ w.heap.size ≤ q) : RefA g B S H v w' := by
 obtain ⟨A, c, A', c', h1, h2, h3, h4⟩ := h
 refine ⟨A, c, A', c', h1, h2.blk fun q hq => ho.blk q (h2.lt hq).2 fun hT => (h4 q hT).1 hq, h3.blk fun q hq => ho.blk q (h3.lt hq).2 fun hT => (h4 q hT).2 hq, fun q hq => ?_⟩
 rcases hS q hq with h5 | h5
 ·exact h4 q h5
 ·exact ⟨fun e => by have := (h2.lt e).2; omega, fun e => by have := (h3.lt e).2; omega⟩
def AnsA (g : ByteArray) (B : Nat) (T : Nat → Prop) (H : List Rt) (E : Int) (v : Value) (w : World) : Prop := ∃ t, v = .tuple #[t, .int .i64 E] ∧ RefA g B T H t w
theorem rstep16_any (g : ByteArray) (B : Nat) (T : Nat → Prop) (H : List Rt) (x : Rt) (t : Value) (w : World) (h : RefA g B T H t w) (hT : ∀ q, T q → q < w.heap.size) (hB : B ≤ w.heap.size) (hH : H.length ≤ 900) (hx : x.1.1.size ≤ maxLen) (E : Int) (hE : (if rtP g x then (0 : Int) else 1) = E) :
  Calls Try.prog 21 #[t, rtVl x] w fun e w' => (∃ v, e = .returned v ∧ AnsA g B T (adR g H x) E v w') ∧ Below w.heap.size w w' := by
 obtain ⟨A, c, A', c', rfl, h2, h3, h4⟩ := h
 refine (rset16_any g A A' c c' H (rtL H) x w (rowRt h2) (rowRt h3) (rtL_asc H) hH (by have := rtL_len H; omega) hx).mono fun e w' hr => ⟨?_, hr.2⟩
 have h5 := hr.1
 unfold adR
 by_cases hp : rtP g x = true
 ·rw [if_pos hp] at h5 hE ⊢
  obtain ⟨A1, c1, A2, c2, e1, o1, o2⟩ := h5
  subst hE
  rw [← rtL_snoc] at e1 o2
  exact ⟨_, e1, _, rfl, A1, c1, A2, c2, rfl, o1.low hB, o2.low hB, fun q hq => ⟨fun e => by have := (o1.lt e).1; have := hT q hq; omega, fun e => by have := (o2.lt e).1; have := hT q hq; omega⟩⟩
 ·rw [if_neg hp] at h5 hE ⊢
  subst hE
  exact ⟨_, h5, _, rfl, A, c, A', c', rfl, h2.up hr.2, h3.up hr.2, h4⟩
def refF (g : ByteArray) (B : Nat) (T : Nat → Prop) (H : List Rt) : AK.Fact KpR := ⟨RefA g B T H, fun _ _ _ hk h => h.kp hk⟩
def ansF (g : ByteArray) (B : Nat) (T : Nat → Prop) (H : List Rt) (E : Int) : AK.Fact KpR := ⟨AnsA g B T H E, fun _ _ _ hk ⟨t, h1, h2⟩ => ⟨t, h1, h2.kp hk⟩⟩
def scJ (g : ByteArray) (B : Nat) (T : Nat → Prop) (H : List Rt) (w0 : World) : Nat → List Value → World → Prop
 | 0, _, W => Below w0.heap.size w0 W
 | 1, l, W => Below w0.heap.size w0 W ∧ ∀ v, l = [v] → ∃ q, v = .pointer (some ⟨q, 0, none⟩) ∧ w0.heap.size ≤ q ∧ Wh 36 W q rfz
 | _ + 2, l, W => Below w0.heap.size w0 W ∧ ∀ v, l = [v] → ∃ q A c A' c', v = .pointer (some ⟨q, 0, none⟩) ∧ w0.heap.size ≤ q ∧ Wh 36 W q [.string g, .slice A H.length c, .slice A' (rtL H).length c'] ∧ RefA g B T H (refV g (.slice A H.length c) (.slice A' (rtL H).length c')) W
theorem scJ.low {g : ByteArray} {B : Nat} {T : Nat → Prop} {H : List Rt} {w0 W : World} {k : Nat} {l : List Value} (h : scJ g B T H w0 k l W) : Below w0.heap.size w0 W := by
 match k with
 | 0 => exact h
 | 1 => exact h.1
 | _ + 2 => exact h.1
theorem scJ.st (g : ByteArray) (B : Nat) (T : Nat → Prop) (H : List Rt) (w0 : World) : ∀ k l W W', Below W.heap.size W W' → scJ g B T H w0 k l W → scJ g B T H w0 k l W'
 | 0, _, _, _, hb, h => Below.trans h (hb.mono (Below.size h))
 | 1, _, _, _, hb, h => ⟨h.1.trans (hb.mono h.1.size), fun v hv => by
  obtain ⟨q, h1, h2, h3⟩ := h.2 v hv
  exact ⟨q, h1, h2, h3.up hb⟩⟩
 | _ + 2, _, _, _, hb, h => ⟨h.1.trans (hb.mono h.1.size), fun v hv => by
  obtain ⟨q, A, c, A', c', h1, h2, h3, h4⟩ := h.2 v hv
  exact ⟨q, A, c, A', c', h1, h2, h3.up hb, h4.up hb⟩⟩
open Go.ChangeShapes Go.WideShapes Go.ChangeAt Go.WideMaps Go.WideElems Go.RowKit Go.Deep Go.Joins
theorem list_of_all {α : Type} {S : Nat → α → Prop} : ∀ n : Nat, (∀ k, k < n → ∃ a, S k a) → ∃ L : List α, L.length = n ∧ ∀ k, k < n → ∃ a, L[k]? = some a ∧ S k a
 | 0, _ => ⟨[], rfl, fun k h => absurd h (by omega)⟩
 | n + 1, h => by
  obtain ⟨L, hl, hL⟩ := list_of_all n fun k hk => h k (by omega)
  obtain ⟨a, ha⟩ := h n (by omega)
  refine ⟨L ++ [a], by simp [hl], fun k hk => ?_⟩
  rcases Nat.lt_or_ge k n with h1 | h1
  ·obtain ⟨b, hb, hs⟩ := hL k h1
   exact ⟨b, by rw [List.getElem?_append_left (by omega)]; exact hb, hs⟩
  ·obtain rfl : k = n := by omega
   exact ⟨a, by rw [List.getElem?_append_right (by omega), hl]; simp, ha⟩
section
variable {H : Type} {enc : TypeId × Value → H} {P : Program} {W : World}
theorem open_rowsG {α : Type} (R : Lay α) {T E : TypeId} {fuel : Nat} {cs : List Value} {x : DataW H × List MemPlace} (hT : P.underlying T = some (.slice E)) (hC : P.cellsOf E = R.s) (q : α → Prop)
  (hread : ∀ fuel cs x, DataW.trod enc P W 0 (fun _ => true) true fuel E cs = some x → ∃ a, cs = R.cel a ∧ q a)
  (hf : DataW.trod enc P W 0 (fun _ => true) true fuel T cs = some x) :
  ∃ A len cap L, cs = [.slice A len cap] ∧ L.length = len ∧ len ≤ 9223372036854775807 ∧ RowAt R W A L ∧ ∀ a ∈ L, q a := by
 rcases open_slice hT hf with ⟨hcs, -⟩ | ⟨a, len, cap, m, n, D, Pl, hcs, -, hl, hm, hmm, -, hx⟩
 ·exact ⟨none, 0, 0, [], hcs, rfl, by omega, RowAt.nil, fun a ha => by cases ha⟩
 ·simp only [if_true] at hmm
  subst hmm
  unfold maxLen at hm
  have key : ∀ k, k < len → ∃ y : α, (∀ j v, (R.cel y)[j]? = some v → W.cell? (a.add (k * R.s + j)) = some v) ∧ q y := by
   intro k hk
   obtain ⟨cs', h1, h2⟩ := hx k (by omega)
   rw [hC] at h1
   obtain ⟨_, hlen, hcell⟩ := World.cells?_some h1
   obtain ⟨y, rfl, hq⟩ := hread _ _ _ h2
   refine ⟨y, fun j v hj => ?_, hq⟩
   have hjl : j < (R.cel y).length := (List.getElem?_eq_some_iff.1 hj).1
   have h4 := hcell j (by rw [R.len] at hjl; omega)
   rw [add_add] at h4
   rw [h4, hj]
  obtain ⟨L, hLl, hL⟩ := list_of_all len key
  obtain ⟨b, off, spot⟩ := a
  refine ⟨_, len, _, L, hcs, hLl, by omega, fun h0 => ?_, fun y hy => ?_⟩
  ·rw [hLl] at h0
   obtain ⟨y0, hy0, hc0, -⟩ := hL 0 h0
   have hz0 := hc0 0 _ (List.getElem?_eq_getElem (by rw [R.len]; exact R.pos))
   have hspot : spot = none := by simpa [Addr.add] using World.cell?_spot hz0
   subst hspot
   have hlt : b < W.heap.size := by
    rcases Nat.lt_or_ge b W.heap.size with hlt | hge
    ·exact hlt
    ·unfold World.cell? at hz0
     rw [show (Addr.add ⟨b, off, none⟩ (0 * R.s + 0)).block = b from by rw [block_add], Array.getElem?_eq_none hge] at hz0
     simp at hz0
   refine ⟨b, off, rfl, hlt, fun j v hj => ?_⟩
   have hjl : j < len * R.s := by
    rw [← hLl, ← R.all_len]
    exact (List.getElem?_eq_some_iff.1 hj).1
   have hs := R.pos
   have hi : j / R.s < len := Nat.div_lt_of_lt_mul (by rw [Nat.mul_comm]; exact hjl)
   obtain ⟨y, hy, hc, -⟩ := hL (j / R.s) hi
   have hr : j % R.s < R.s := Nat.mod_lt _ hs
   have he : j / R.s * R.s + j % R.s = j := by rw [Nat.mul_comm]; exact Nat.div_add_mod _ _
   have h5 := hc (j % R.s) v (by rw [← R.get L (j / R.s) y hy _ hr, he]; exact hj)
   rw [he, Go.WideShapes.add_plain] at h5
   exact h5
  ·obtain ⟨k, hk⟩ := List.getElem?_of_mem hy
   have hkl : k < len := by rw [← hLl]; exact (List.getElem?_eq_some_iff.1 hk).1
   obtain ⟨z, hz, -, hq⟩ := hL k hkl
   rw [hk] at hz
   injection hz with hz
   subst hz
   exact hq
end
section
variable {H : Type} {enc : TypeId × Value → H} {W : World}
end
section
variable {H : Type} {enc : TypeId × Value → H} {P : Program} {w : World} {r : Reach} {b0 base : Nat} {t e : TypeId} {k : IntKind} {spare : Nat → Bool} {held : Bool} {v : Value} {d : DataW H} {ps : List MemPlace}
end
open Go.ChangeShapes Go.WideShapes Go.ChangeAt Go.WideMaps Go.WideElems Go.RowKit Go.Deep Go.Joins
theorem cells4T {cs : List Value} (h : cs.length = 4) : ∃ c0 c1 c2 c3, cs = [c0, c1, c2, c3] := by
 match cs, h with
 | [c0, c1, c2, c3], _ => exact ⟨c0, c1, c2, c3, rfl⟩
section
variable {H : Type} {enc : TypeId × Value → H} {W : World}
set_option maxRecDepth 100000 in
theorem open_rateC {fuel : Nat} {cs : List Value} {x : DataW H × List MemPlace} (hf : DataW.trod enc Try.prog W 0 (fun _ => true) true fuel 24 cs = some x) : ∃ a : Rt, cs = rtC a ∧ okT a := by
 obtain ⟨xs, n', -, -, hlen, hxl, hff⟩ := DataW.trod_struct Try.underlying24 hf
 have hC : Try.prog.cellsOf 24 = 4 := by kernel_rfl
 rw [hC] at hlen
 obtain ⟨c0, c1, c2, c3, e7⟩ := cells4T hlen
 have hxl' : xs.length = 4 := hxl
 have hget : ∀ i, i < 4 → ∃ y, xs[i]? = some y := fun i hi => ⟨_, List.getElem?_eq_getElem (by omega)⟩
 have ki : Try.prog.cellsOf 3 = 1 := by kernel_rfl
 have ks : Try.prog.cellsOf 9 = 1 := by kernel_rfl
 have h0 : DataW.trod enc Try.prog W 0 (fun _ => true) true n' 9 ((cs.drop 0).take (Try.prog.cellsOf 9)) = xs[0]? := hff 0 _ rfl
 obtain ⟨y0, e0⟩ := hget 0 (by omega)
 rw [e0, ks, e7] at h0
 have h1 : DataW.trod enc Try.prog W 0 (fun _ => true) true n' 3 ((cs.drop 1).take (Try.prog.cellsOf 3)) = xs[1]? := hff 1 _ rfl
 obtain ⟨y1, e1⟩ := hget 1 (by omega)
 rw [e1, ki, e7] at h1
 have h2 : DataW.trod enc Try.prog W 0 (fun _ => true) true n' 3 ((cs.drop 2).take (Try.prog.cellsOf 3)) = xs[2]? := hff 2 _ rfl
 obtain ⟨y2, e2⟩ := hget 2 (by omega)
 rw [e2, ki, e7] at h2
 have h3 : DataW.trod enc Try.prog W 0 (fun _ => true) true n' 3 ((cs.drop 3).take (Try.prog.cellsOf 3)) = xs[3]? := hff 3 _ rfl
 obtain ⟨y3, e3⟩ := hget 3 (by omega)
 rw [e3, ki, e7] at h3
 obtain ⟨z0, q0, -, w0⟩ := DataW.trod_string Try.underlying9 h0
 have a0 : c0 = .string z0 := by simpa using q0
 obtain ⟨z1, q1, -, w1⟩ := DataW.trod_int Try.underlying3 h1
 have a1 : c1 = .int .i64 z1 := by simpa using q1
 obtain ⟨z2, q2, -, w2⟩ := DataW.trod_int Try.underlying3 h2
 have a2 : c2 = .int .i64 z2 := by simpa using q2
 obtain ⟨z3, q3, -, w3⟩ := DataW.trod_int Try.underlying3 h3
 have a3 : c3 = .int .i64 z3 := by simpa using q3
 subst a0 a1 a2 a3
 exact ⟨((z0, z1, z2), z3), e7, ⟨w0, w1, w2⟩, w3⟩
def LenT (d : DataW H) (len : Nat) : Prop := d = .nil ∧ len = 0 ∨ ∃ es sp, d = .slice es sp ∧ es.length = len
set_option maxRecDepth 100000 in
theorem open_irates {b0 : Nat} {v : Value} {d : DataW H} {p : List MemPlace} (hval : Value.okWide Try.prog W .any b0 22 v) (h : DataW.Trod enc Try.prog W 0 (fun _ => true) true 22 v d p) :
  ∃ A len c S, v = .slice A len c ∧ S.length = len ∧ LenT d len ∧ RowAt lyT W A S ∧ ∀ s ∈ S, okT s := by
 obtain ⟨a0, len, cap, rfl⟩ := okWide_slice Try.underlying22 hval
 obtain ⟨fuel, hf⟩ := h
 obtain ⟨A, len', c, S, hcs, hl, hm, hr, hq⟩ := open_rowsG lyT Try.underlying22 (by kernel_rfl) okT (fun _ _ _ h => open_rateC h) hf
 simp [Value.cells] at hcs
 obtain ⟨rfl, rfl, rfl⟩ := hcs
 refine ⟨_, _, _, S, rfl, hl, ?_, hr, hq⟩
 rcases open_slice Try.underlying22 hf with ⟨hcs, hx⟩ | ⟨a, len, cap, m, n, D, Pl, hcs, -, hl, hm, hmm, hx, -⟩
 ·simp [Value.cells] at hcs hx
  exact .inl ⟨hx.1, hcs.2.1⟩
 ·simp [Value.cells] at hcs hx
  obtain ⟨rfl, rfl, rfl⟩ := hcs
  exact .inr ⟨_, _, hx.1, by simp⟩
theorem rates_small {ts : List TypeId} {ds : List (DataW H)} (h : (DataW.weightsEach Try.prog ts ds).all (· ≤ reachBytes) = true) {j : Nat} {d : DataW H} (ht : ts[j]? = some 22) (hd : ds[j]? = some d) {len : Nat} (hl : LenT d len) : len ≤ 3518437208780 := by
 rcases hl with ⟨_, rfl⟩ | ⟨es, sp, rfl, rfl⟩
 ·omega
 ·have h1 := sized_slice h ht hd Try.underlying22
  rw [show Try.prog.bytesOf 24 = 40 by kernel_rfl] at h1
  unfold reachBytes at h1
  omega
end
open Go.RowKit Go.Sort
def rtscC (g : ByteArray) (bb off n c i _p7 B2 c1 c2 : Nat) (A1 A2 : Option Addr) (H H2 : List Rt) (x : Rt) (T : Nat → Prop) (E : Int) : List (Nat × AK.Fact (KpR)) := [(50, AK.Fact.is (refV g (.slice A1 H.length c1) (.slice A2 (rtL H).length c2))), (51, AK.Fact.is (.slice (some ⟨bb, off, none⟩) n c)), (52, AK.Fact.is (.int .i64 (i : Int))), (53, AK.Fact.is (.pointer (some ⟨bb, off + i * 4, none⟩))), (54, AK.Fact.is (rtVl x)), (55, ansF g B2 T H2 E), (49, ansF g B2 T H2 E), (56, refF g B2 T H2), (57, AK.Fact.is (.int .i64 E)), (10, AK.Fact.triv), (11, AK.Fact.is (.int .i64 E))]
theorem RefA.rows {g : ByteArray} {B : Nat} {T : Nat → Prop} {H : List Rt} {A A' : Option Addr} {c c' : Nat} {w : World} (h : RefA g B T H (refV g (.slice A H.length c) (.slice A' (rtL H).length c')) w) : RowAt lyT w A H ∧ RowAt lyT w A' (rtL H) := by
 obtain ⟨A1, c1, A2, c2, e, o1, o2, -⟩ := h
 have e2 : (A = A1 ∧ c = c1) ∧ A' = A2 ∧ c' = c2 := by simpa using e
 obtain ⟨⟨rfl, rfl⟩, rfl, rfl⟩ := e2
 exact ⟨rowRt o1, rowRt o2⟩
def ScI (g : ByteArray) (w2 : World) (B : Nat) (P : Value) (p7 : Nat) (H : List Rt) (wr : World) : Prop := ∃ j A c A' c', TP wr B P j H ∧ j.g = g ∧ Wh 36 wr p7 [.string g, .slice A H.length c, .slice A' (rtL H).length c'] ∧ RefA g B (j.own H.length) H (refV g (.slice A H.length c) (.slice A' (rtL H).length c')) wr ∧ ¬ j.own H.length p7 ∧ Below B w2 wr
set_option maxRecDepth 100000 in
set_option maxHeartbeats 6400000 in
theorem law_rscript16 (g : ByteArray) (A : Option Addr) (n c : Nat) (L : List Rt) (w : World) (hgm : g.size ≤ maxLen) (hnl : L.length = n) (hnm : n ≤ 3518437208780) (hz : RowAt lyT w A L) (hok : ∀ s ∈ L, okT s) :
  Calls Try.prog 4 #[.string g, .slice A n c] w fun e w' => e = .returned (.bool true) ∧ Below w.heap.size w w' := by
 have HAW := Lib.hid awake16_any
 obtain ⟨s0, hs0⟩ : ∃ s0, w.heap.size = s0 := ⟨_, rfl⟩
 have HS0 := Lib.hid hs0
 have HNL := Lib.hid hnl
 have HZ1 := Lib.hid hz
 have HOL := Lib.hid hok
 have HGM := Lib.hid hgm
 have HNM := Lib.hid hnm
 obtain ⟨F, hF⟩ : ∃ F, fewT g L = F := ⟨_, rfl⟩
 have HFE := Lib.hid hF
 have HFW : Hid (∀ W, Below w.heap.size w W → Calls Try.prog 12 #[.string g, .slice A n c] W fun e w' => e = .returned (.bool F) ∧ W = w') := Lib.hid (fun W h => by rw [← hF, ← HNL.out]; exact few16_any g A c L W (HZ1.out.up h) (by rw [HNL.out]; have := HNM.out; omega))
 clear hnl hz hok hgm hnm hF hs0
 have HM1 : Hid True := Lib.hid trivial
 have HM2 : Hid True := Lib.hid trivial
 have HM3 : Hid True := Lib.hid trivial
 have HM4 : Hid True := Lib.hid trivial
 have HM5 : Hid True := Lib.hid trivial
 have HM6 : Hid True := Lib.hid trivial
 have HM7 : Hid True := Lib.hid trivial
 have HM8 : Hid True := Lib.hid trivial
 have HM9 : Hid True := Lib.hid trivial
 have HM10 : Hid True := Lib.hid trivial
 have HM11 : Hid True := Lib.hid trivial
 have HM12 : Hid True := Lib.hid trivial
 have HM13 : Hid True := Lib.hid trivial
 have HM14 : Hid True := Lib.hid trivial
 have HM15 : Hid True := Lib.hid trivial
 have HM16 : Hid True := Lib.hid trivial
 have HM17 : Hid True := Lib.hid trivial
 have HM18 : Hid True := Lib.hid trivial
 have HM19 : Hid True := Lib.hid trivial
 cases F
 ·go_enter Try.func4, Try.ntmps4
  go_wp2_with (first
   | (go_at_call 11; refine (HAW.out _).mono ?_; rintro e w2 ⟨rfl, hb⟩; have HB2 : Hid (Below w.heap.size w w2) := Lib.hid hb; clear hb)
   | (go_at_call 12; refine (HFW.out _ HB2.out).mono ?_; rintro e w3 ⟨rfl, rfl⟩))
  go_ret
  exact ⟨rfl, by have h9 := HB2.out; first | exact h9 | (rw [← HS0.out]; exact h9)⟩
 have HN2 : Hid (n ≤ 200) := Lib.hid (by rw [← HNL.out]; exact fewT_len HFE.out)
 by_cases hcu : curB g = true
 rotate_left
 ·have HNW : Hid (∀ W, Calls Try.prog 19 #[.string g] W fun e w' => e = .returned (.tuple #[.pointer none, .int .i64 1]) ∧ Below W.heap.size W w') := Lib.hid (fun W => (nwT_any g W).mono fun e w' h => ⟨by have h1 := h.1; unfold NwT at h1; rw [if_neg hcu] at h1; exact h1, h.2⟩)
  have HCF := Lib.hid hcu
  clear hcu
  have HRN : Hid (∀ W, Calls Try.prog 20 #[.string g] W fun e w' => e = .returned (.tuple #[refV ⟨#[]⟩ (.slice none 0 0) (.slice none 0 0), .int .i64 1]) ∧ Below W.heap.size W w') := Lib.hid (fun W => by have h1 := rnew16_any g W HGM.out; rw [if_neg HCF.out, if_neg HCF.out] at h1; exact h1)
  have HBC : Hid (Below w.heap.size w w) := Lib.hid (Below.refl _ _)
  go_enter Try.func4, Try.ntmps4
  go_wp2_with (first
   | (go_at_call 11; refine (HAW.out _).mono ?_; rintro e w2 ⟨rfl, hb⟩; have hB3 := Lib.hid (HBC.out.trans (hb.mono HBC.out.size)); clear HBC; have HBC := hB3; clear hB3 hb)
   | (go_at_call 12; refine (HFW.out _ HBC.out).mono ?_; rintro e w3 ⟨rfl, rfl⟩)
   | (go_at_call 19; refine (HNW.out _).mono ?_; rintro e w4 ⟨rfl, hb⟩; have hB3 := Lib.hid (HBC.out.trans (hb.mono HBC.out.size)); clear HBC; have HBC := hB3; clear hB3 hb)
   | (go_at_call 20; refine (HRN.out _).mono ?_; rintro e w5 ⟨rfl, hb⟩; have hB3 := Lib.hid (HBC.out.trans (hb.mono HBC.out.size)); clear HBC; have HBC := hB3; clear hB3 hb))
  go_ret
  exact ⟨by first | rfl | simp, by have h9 := HBC.out; first | exact h9 | exact below_new h9 _ | (rw [← HS0.out]; first | exact h9 | exact below_new h9 _)⟩
 have HCU := Lib.hid hcu
 have HNW : Hid (∀ W, Calls Try.prog 19 #[.string g] W fun e w' => (∃ (b : Nat) (j : TD), e = .returned (.tuple #[.pointer (some ⟨b, 0, none⟩), .int .i64 0]) ∧ TP w' W.heap.size (.pointer (some ⟨b, 0, none⟩)) j [] ∧ j.g = g) ∧ Below W.heap.size W w') := Lib.hid (fun W => (nwT_any g W).mono fun e w' h => ⟨by have h1 := h.1; unfold NwT at h1; rw [if_pos hcu] at h1; exact h1, h.2⟩)
 have HRN : Hid (∀ W, Calls Try.prog 20 #[.string g] W fun e w' => e = .returned (.tuple #[refV g (.slice none 0 0) (.slice none 0 0), .int .i64 0]) ∧ Below W.heap.size W w') := Lib.hid (fun W => by have h1 := rnew16_any g W HGM.out; rw [if_pos HCU.out, if_pos HCU.out] at h1; exact h1)
 clear hcu
 go_enter Try.func4, Try.ntmps4
 go_upto_region 5 with (first
  | (go_at_call 11; refine (HAW.out _).mono ?_; rintro e w2 ⟨rfl, hb⟩; have HB2 : Hid (Below w.heap.size w w2) := Lib.hid hb; clear hb)
  | (go_at_call 12; refine (HFW.out _ HB2.out).mono ?_; rintro e w3 ⟨rfl, rfl⟩))
 obtain ⟨wl, hwl⟩ : ∃ wl, w2 = wl := ⟨_, rfl⟩
 subst hwl
 have HRL : Hid (RowAt lyT w2 A L) := Lib.hid (HZ1.out.up HB2.out)
 have HBC : Hid (Below w2.heap.size w2 w2) := Lib.hid (Below.refl _ _)
 have HBW : Hid (∀ W, Below w2.heap.size w2 W → Below w.heap.size w W) := Lib.hid (fun W h => HB2.out.trans (h.mono HB2.out.size))
 go_upto_region 12 with (first
  | (go_at_call 19; refine (HNW.out _).mono ?_; rintro e w4 ⟨⟨b4, j4, rfl, hj, hg⟩, hb⟩; have HT := Lib.hid hj; have HGJ := Lib.hid hg; clear hj hg; have hB3 := Lib.hid (HBC.out.trans (hb.mono HBC.out.size)); clear HBC; have HBC := hB3; clear hB3 hb)
  | (go_at_call 20; refine (HRN.out _).mono ?_; rintro e w5 ⟨rfl, hb⟩; have HT5 := Lib.hid (HT.out.up hb); have HZ45 := Lib.hid hb.size; have hB3 := Lib.hid (HBC.out.trans (hb.mono HBC.out.size)); clear HBC; have HBC := hB3; clear hB3 hb))
 obtain ⟨p7, hp7⟩ : ∃ p, w5.heap.size = p := ⟨_, rfl⟩
 obtain ⟨B2, hB2⟩ : ∃ B, w2.heap.size = B := ⟨_, rfl⟩
 have HB2E := Lib.hid hB2
 have HSI : Hid (ScI g w2 B2 (.pointer (some ⟨b4, 0, none⟩)) p7 [] (w5.alloc (.cells #[.string g, .slice none 0 0, .slice none 0 0] 36))) := Lib.hid (by
  have hb6 := below_alloc_new (w := w5) (.cells #[.string g, .slice none 0 0, .slice none 0 0] 36)
  have h5 := HT5.out.up hb6
  rw [hB2] at h5
  refine ⟨j4, none, 0, none, 0, h5, HGJ.out, by rw [← hp7]; exact Wh.new w5 _ _, ⟨none, 0, none, 0, rfl, OwnR.nil, OwnR.nil, fun q hq => ⟨(by intro e; cases e), (by intro e; cases e)⟩⟩, fun h => ?_, by rw [← hB2]; exact HBC.out.trans (hb6.mono HBC.out.size)⟩
  have h1 := (HT.out.2.own_lt h).2
  have h2 := HZ45.out
  omega)
 obtain ⟨w6, hw6⟩ : ∃ W, w5.alloc (.cells #[.string g, .slice none 0 0, .slice none 0 0] 36) = W := ⟨_, rfl⟩
 rw [hw6] at HSI
 simp only [hw6, hp7]
 have HBP : Hid (B2 ≤ p7) := Lib.hid (by rw [← hB2, ← hp7]; exact HBC.out.size)
 clear hp7 hB2 hw6 HT HT5 HBC HGJ HZ45
 go_loopg [9] n (fun kx s9 wr => ∃ i : Nat, s9 = .int .i64 (i : Int) ∧ i ≤ n ∧ n - i ≤ kx ∧ Hid (ScI g w2 B2 (.pointer (some ⟨b4, 0, none⟩)) p7 (rtH g (L.take i)) wr))
 case atStart => exact ⟨0, rfl, by omega, by omega, HSI⟩
 case round =>
  obtain ⟨i, rfl, hi1, hix, HS⟩ := hrel
  obtain ⟨H, hH⟩ : ∃ H, rtH g (L.take i) = H := ⟨_, rfl⟩
  rw [hH] at HS
  obtain ⟨j, A1, c1, A2, c2, hT, hg, hW, hR, hp, hb⟩ := HS.out
  have HLN : Hid (H.length ≤ 200) := Lib.hid (by
   rw [← hH]
   have h1 := rtH_len g (L.take i)
   rw [List.length_take] at h1
   have := HNL.out
   have := HN2.out
   omega)
  have HT := Lib.hid hT
  have HGJ := Lib.hid hg
  have HW7 := Lib.hid hW
  have HRA := Lib.hid hR
  have HP7 := Lib.hid hp
  have HBR := Lib.hid hb
  have HHE := Lib.hid hH
  clear hT hg hW hR hp hb hH HS
  by_cases hlt : i < n
  ·have hltz : (i : Int) < (n : Int) := by omega
   obtain ⟨x, hx⟩ : ∃ x, L[i]? = some x := ⟨_, List.getElem?_eq_getElem (by rw [HNL.out]; exact hlt)⟩
   have HOX : Hid (okT x) := Lib.hid (HOL.out x (List.mem_of_getElem? hx))
   obtain ⟨bb, off, hA, -, hld⟩ := rt_get HRL.out hx
   subst hA
   have HBW2 : Hid (∀ W, Below wr.heap.size wr W → Below w2.heap.size w2 W) := Lib.hid (fun W h => by rw [HB2E.out]; exact HBR.out.trans (h.mono (by have h1 := HBR.out.size; have := HB2E.out; omega)))
   have HLX : Hid (∀ W, Below wr.heap.size wr W → (Instr.loadAt 24 (.pointer (some ⟨bb, off + i * 4, none⟩))).run Try.prog W = .ok (rtVl x) W) := Lib.hid (fun W h => hld W (HBW2.out W h))
   have HLY : Hid (∀ W, Below w2.heap.size w2 W → (Instr.loadAt 24 (.pointer (some ⟨bb, off + i * 4, none⟩))).run Try.prog W = .ok (rtVl x) W) := Lib.hid hld
   obtain ⟨E, hE⟩ : ∃ E, (if rtP g x then (0 : Int) else 1) = E := ⟨_, rfl⟩
   obtain ⟨H2, hH2⟩ : ∃ H2, adR g H x = H2 := ⟨_, rfl⟩
   obtain ⟨T, hT⟩ : ∃ T, j.own H.length = T := ⟨_, rfl⟩
   have HN3 : Hid (rtH g (L.take (i + 1)) = H2) := Lib.hid (by rw [List.take_add_one, hx, ← hH2, ← HHE.out]; exact rtH_snoc g _ x)
   have HTL : Hid (∀ q, T q → q < wr.heap.size) := Lib.hid (fun q hq => (HT.out.2.own_lt (by rw [hT]; exact hq)).2)
   have hBs : B2 ≤ wr.heap.size := by have h1 := HBR.out.size; have := HB2E.out; omega
   have HBS := Lib.hid hBs
   have HST : Hid (∀ W, Below wr.heap.size wr W → Calls Try.prog 21 #[refV g (.slice A1 H.length c1) (.slice A2 (rtL H).length c2), rtVl x] W fun e w' => (∃ v, e = .returned v ∧ AnsA g B2 T H2 E v w') ∧ Below W.heap.size W w') := Lib.hid (fun W h => by
    rw [← hH2]
    have h9 := HRA.out
    rw [hT] at h9
    exact rstep16_any g B2 T H x _ W (h9.up h) (fun q hq => Nat.lt_of_lt_of_le (HTL.out q hq) h.size) (Nat.le_trans hBs h.size) (by have := HLN.out; omega) HOX.out.1.1 E hE)
   have HSE : Hid (∀ W, Below wr.heap.size wr W → Calls Try.prog 22 #[.pointer (some ⟨b4, 0, none⟩), rtVl x] W fun e w' => e = .returned (.int .i64 E) ∧ ∃ k, GoP W w' B2 (.pointer (some ⟨b4, 0, none⟩)) j H k H2) := Lib.hid (fun W h => by
    have h9 := setP_any x (HT.out.up h) (Nat.le_trans hBs h.size) HOX.out.1 (by have := HLN.out; omega) E (by rw [HGJ.out]; exact hE)
    rw [HGJ.out, hH2] at h9
    exact h9)
   have HTE := Lib.hid hT
   have HLZ := Lib.hid hltz
   clear hx hld hE hH2 hT hBs
   go_upto_region 14 with fail
   refine AK.region_facts (Rp := Below0) (Kp := KpR) (rtscC g bb off n c i p7 B2 c1 c2 A1 A2 H H2 x T E) (scJ g B2 T H2 wr) [[], [], [], [51, 52], [53], [50, 54], [55], [49], [49], [], [10, 56], [57]] [9, 10] [[], [10], [10]] [2, 2, 2, 2, 2, 2, 2, 2, 2, 2, 2, 2] [0, 0, 0, 0, 0, 0, 0, 0, 0, 0, 0, 0] [] (fun u => by simp only [rtscC, AK.temps, List.map_cons, List.map_nil, fillL, List.setIfInBounds_toArray, List.set_cons_zero, List.set_cons_succ]; rfl) (by kernel_rfl) (by kernel_rfl) (fun _ _ h => h.1) (fun _ _ h => KpR.of h) (scJ.st _ _ _ _ _) (dc_drew (Below.refl _ _)) ?_ ?_
   ·refine AK.sc (lim := 2) (lo := 0) rfl rfl rfl rfl ?_ ?_
    ·intro k_ u w_ hk_ hl_ hJ hF K hK
     clear hF
     refine wp_load_is 36 _ rfl _ rfl (refV g (.slice A1 H.length c1) (.slice A2 (rtL H).length c2)) ((HW7.out.up hJ.low).rg.load 0 36 [.string g, .slice A1 H.length c1, .slice A2 (rtL H).length c2] rfl _ Try.underlying36 rfl (by kernel_rfl)) ?_
     exact hK.out _ _ (Below.refl _ _) (rfl) trivial
    refine AK.sc (lim := 2) (lo := 0) rfl rfl rfl rfl ?_ ?_
    ·intro k_ u w_ hk_ hl_ hJ hF K hK
     clear hF
     go_simp
     exact hK.out _ _ (Below.refl _ _) (rfl) trivial
    refine AK.sc (lim := 2) (lo := 0) rfl rfl rfl rfl ?_ ?_
    ·intro k_ u w_ hk_ hl_ hJ hF K hK
     clear hF
     go_simp
     exact hK.out _ _ (Below.refl _ _) (rfl) trivial
    refine AK.sc (lim := 2) (lo := 0) rfl rfl rfl rfl ?_ ?_
    ·intro k_ u w_ hk_ hl_ hJ hF K hK
     have h51 : u 51 = .slice (some ⟨bb, off, none⟩) n c := AK.facts_get hF 51 (by simp)
     have h52 : u 52 = .int .i64 (i : Int) := AK.facts_get hF 52 (by simp)
     clear hF
     simp only [h51, h52] at hK ⊢
     clear h51 h52
     have hl_ := HLZ.out
     go_simp
     exact hK.out _ _ (Below.refl _ _) (rfl) trivial
    refine AK.sc (lim := 2) (lo := 0) rfl rfl rfl rfl ?_ ?_
    ·intro k_ u w_ hk_ hl_ hJ hF K hK
     have h53 : u 53 = .pointer (some ⟨bb, off + i * 4, none⟩) := AK.facts_get hF 53 (by simp)
     clear hF
     simp only [h53] at hK ⊢
     clear h53
     refine wp_load_is 24 _ rfl _ rfl (rtVl x) (HLX.out _ hJ.low) ?_
     exact hK.out _ _ (Below.refl _ _) (rfl) trivial
    refine AK.sc (lim := 2) (lo := 0) rfl rfl rfl rfl ?_ ?_
    ·intro k_ u w_ hk_ hl_ hJ hF K hK
     have h50 : u 50 = refV g (.slice A1 H.length c1) (.slice A2 (rtL H).length c2) := AK.facts_get hF 50 (by simp)
     have h54 : u 54 = rtVl x := AK.facts_get hF 54 (by simp)
     clear hF
     simp only [h50, h54] at hK ⊢
     clear h50 h54
     go_simp
     refine (HST.out _ hJ.low).mono ?_
     rintro e w6 ⟨⟨v6, rfl, h6⟩, hb6⟩
     exact hK.out _ _ hb6 h6 trivial
    refine AK.sc (lim := 2) (lo := 0) rfl rfl rfl rfl ?_ ?_
    ·intro k_ u w_ hk_ hl_ hJ hF K hK
     have h55 : AnsA g B2 T H2 E (u 55) w_ := AK.facts_get hF 55 (by simp)
     clear hF
     go_simp
     exact hK.out _ _ (Below.refl _ _) h55 trivial
    refine AK.sc (lim := 2) (lo := 0) rfl rfl rfl rfl ?_ ?_
    ·intro k_ u w_ hk_ hl_ hJ hF K hK
     have h49 : AnsA g B2 T H2 E (u 49) w_ := AK.facts_get hF 49 (by simp)
     clear hF
     obtain ⟨t49, h49, r49⟩ := h49
     simp only [h49] at hK ⊢
     clear h49
     go_simp
     exact hK.out _ _ (Below.refl _ _) r49 trivial
    refine AK.sc (lim := 2) (lo := 0) rfl rfl rfl rfl ?_ ?_
    ·intro k_ u w_ hk_ hl_ hJ hF K hK
     have h49 : AnsA g B2 T H2 E (u 49) w_ := AK.facts_get hF 49 (by simp)
     clear hF
     obtain ⟨t49, h49, r49⟩ := h49
     simp only [h49] at hK ⊢
     clear h49
     go_simp
     exact hK.out _ _ (Below.refl _ _) (rfl) trivial
    refine AK.ss rfl rfl ?_ ?_
    ·intro u w_ hJ hA_ hF K hK
     clear hF
     go_simp
     have hb9 : Below wr.heap.size wr w_ := hJ
     exact hK.out _ _ ⟨hb9.trans ((below_alloc_new _).mono hb9.size), fun v hv => by cases hv; exact ⟨w_.heap.size, rfl, hb9.size, Wh.new w_ 36 rfz⟩⟩ (KpR.of (below_alloc_new _)) trivial
    refine AK.ss rfl rfl ?_ ?_
    ·intro u w_ hJ hA_ hF K hK
     have h56 : RefA g B2 T H2 (u 56) w_ := AK.facts_get hF 56 (by simp)
     clear hF
     obtain ⟨A3, c3, A4, c4, h56, x3, y3, z3⟩ := h56
     obtain ⟨q9, h10, hq9, hw9⟩ := hJ.2 _ rfl
     have hq10 := h10
     simp only [h56, h10] at hK ⊢
     clear h56 h10
     refine wp_store_wh 36 (.tmp 10) (.tmp 56) rfl q9 rfl 36 rfz [.string g, .slice A3 H2.length c3, .slice A4 (rtL H2).length c4] rfl hw9 rfl (by kernel_rfl) (by kernel_rfl) ?_
     intro w8 hr8 ho8 hz8
     have hk8 := KpR.store hw9 ho8.out
     exact hK.out undef _ ⟨hJ.1.trans (ho8.out.below (fun k e => by rw [show k = q9 from e]; exact hq9) hJ.1.size), fun v hv => by cases hv; exact ⟨q9, A3, c3, A4, c4, hq10, hq9, hr8.out, A3, c3, A4, c4, rfl, hk8.own x3, hk8.own y3, z3⟩⟩ hk8 trivial
    refine AK.sc (lim := 2) (lo := 0) rfl rfl rfl rfl ?_ ?_
    ·intro k_ u w_ hk_ hl_ hJ hF K hK
     have h57 : u 57 = .int .i64 E := AK.facts_get hF 57 (by simp)
     clear hF
     simp only [h57] at hK ⊢
     clear h57
     go_simp
     exact hK.out _ _ (Below.refl _ _) (rfl) trivial
    exact AK.StepsOk.nil
   ·intro u W9 hJ9 hF
    have h11 : u 11 = .int .i64 E := AK.facts_get hF 11 (by simp [rtscC, AK.temps])
    clear hF
    obtain ⟨q9, A3, c3, A4, c4, h10, hq9, hw9, hr9⟩ := hJ9.2 _ rfl
    simp only [h10, h11]
    have HJ := Lib.hid hJ9.1
    have HQ9 := Lib.hid hq9
    have HW9 := Lib.hid hw9
    have HR9 := Lib.hid hr9
    clear hJ9 hq9 hw9 hr9 h10 h11
    go_upto_region 17 with (first
     | (clear HM1; refine wpList_load_is rfl 24 _ rfl _ rfl (rtVl x) (HLX.out _ HJ.out) ?_)
     | (clear HM2; go_at_call 22; refine (HSE.out _ HJ.out).mono ?_; rintro e w10 ⟨rfl, k, hm⟩; have HGO := Lib.hid hm; clear hm))
    have HT9 := Lib.hid (HT.out.up HJ.out)
    have HTO : Hid (Only T W9 w10) := Lib.hid (by have h1 := HGO.out.mv.only; rw [HTE.out] at h1; exact h1)
    have HPL : Hid (p7 < wr.heap.size) := Lib.hid HW7.out.lt
    have HPT : Hid (¬ T p7) := Lib.hid (fun h => HP7.out (by rw [HTE.out]; exact h))
    have HQ10 := Lib.hid (HW9.out.only HTO.out (fun h => by have h1 := HTL.out _ h; have := HQ9.out; omega))
    have HP10 := Lib.hid ((HW7.out.up HJ.out).only HTO.out HPT.out)
    have HOWK : Hid (∀ q, k.own H2.length q → T q ∨ W9.heap.size ≤ q) := Lib.hid (fun q hq => by have h1 := HGO.out.mv.own hq; rw [HTE.out] at h1; exact h1)
    have HR10 := Lib.hid (HR9.out.only HTO.out HOWK.out)
    go_wp2_with (first
     | (refine wpList_load_is rfl 36 _ rfl (.pointer (some ⟨q9, 0, none⟩)) rfl (refV g (.slice A3 H2.length c3) (.slice A4 (rtL H2).length c4)) (HQ10.out.rg.load 0 36 [.string g, .slice A3 H2.length c3, .slice A4 (rtL H2).length c4] rfl _ Try.underlying36 rfl (by kernel_rfl)) ?_)
     | (refine wpList_store_wh rfl 36 _ _ rfl p7 rfl 36 [.string g, .slice A1 H.length c1, .slice A2 (rtL H).length c2] [.string g, .slice A3 H2.length c3, .slice A4 (rtL H2).length c4] rfl HP10.out rfl (by kernel_rfl) (by kernel_rfl) ?_; intro w11 hr11 ho11 hz11))
    have HNP : Hid (¬ k.own H2.length p7) := Lib.hid (fun h => by
     rcases HOWK.out _ h with h1 | h1
     ·exact HPT.out h1
     ·have := HPL.out; have := HJ.out.size; omega)
    have HSN : Hid (ScI g w2 B2 (.pointer (some ⟨b4, 0, none⟩)) p7 (rtH g (L.take (i + 1))) w11) := Lib.hid (by
     rw [HN3.out]
     have z1 := HBS.out
     have z2 := HJ.out.size
     refine ⟨k, A3, c3, A4, c4, HGO.out.tp.only ho11.out (fun q h1 h2 => HNP.out (by rw [show q = p7 from h2] at h1; exact h1)), HGO.out.g.trans HGJ.out, hr11.out, HR10.out.kp (KpR.store HP10.out ho11.out), HNP.out, ?_⟩
     exact ((HBR.out.trans (HJ.out.mono z1)).trans (HGO.out.below HT9.out (by omega))).trans (ho11.out.below (fun q e => by rw [show q = p7 from e]; exact HBP.out) (by have := HTO.out.size; omega)))
    have hn200 := HN2.out
    have hwr : wrap64 ((i : Int) + 1) = ((i + 1 : Nat) : Int) := by unfold wrap64; omega
    have hwr2 : IntKind.i64.wrap ((i : Int) + 1) = ((i + 1 : Nat) : Int) := by rw [IntKind.wrap_i64]; omega
    go_roundg (n - (i + 1))
    case measure => omega
    case rel => exact ⟨i + 1, by first | rw [hwr] | rw [hwr2] | simp only [hwr] | simp only [hwr2] | go_num, by omega, by omega, HSN⟩
  ·obtain rfl : i = n := by omega
   have hltz : ¬ (i : Int) < (i : Int) := by omega
   have HBC : Hid (Below w2.heap.size w2 wr) := Lib.hid (by rw [HB2E.out]; exact HBR.out)
   have HSM : Hid (Calls Try.prog 23 #[.pointer (some ⟨b4, 0, none⟩), refV g (.slice A1 H.length c1) (.slice A2 (rtL H).length c2)] wr fun e w' => e = .returned (.bool true) ∧ Below wr.heap.size wr w') := Lib.hid (same16_any _ j H (rtL H) B2 g A1 A2 c1 c2 wr HT.out (by have := HLN.out; omega) rfl HRA.out.rows.1 HRA.out.rows.2)
   go_wp2_with (first
    | (refine wpList_load_is rfl 36 _ rfl (.pointer (some ⟨p7, 0, none⟩)) rfl (refV g (.slice A1 H.length c1) (.slice A2 (rtL H).length c2)) (HW7.out.rg.load 0 36 [.string g, .slice A1 H.length c1, .slice A2 (rtL H).length c2] rfl _ Try.underlying36 rfl (by kernel_rfl)) ?_)
    | (go_at_call 23; refine HSM.out.mono ?_; rintro e w12 ⟨rfl, hb⟩; have hB3 := Lib.hid (HBC.out.trans (hb.mono HBC.out.size)); clear HBC; have HBC := hB3; clear hB3 hb))
   go_ret
   exact ⟨rfl, by have h9 := HBW.out _ HBC.out; first | exact h9 | (rw [← HS0.out]; exact h9)⟩
end Go.Proofs.Ytihgnnocagfdeaa
