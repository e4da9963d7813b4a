/- Contracts of the functions that the statements reach, part 3: what was proved of each, callees first. -/
import Derived.Shelf.SlGeneric
import Derived.Shelf.SlMaps.Clone
import Derived.Ground.SlmcProg
import Derived.Test.YtihgnnocagfdeaaProg
import Derived.SizedLaws
import Derived.Test.YtihgnnocagfdeaaRP2
namespace Go.Proofs.Ytihgnnocagfdeaa
open Go.RowKit Go.Sort
def TP (w : World) (B : Nat) (P : Value) (j : TD) (H : List Rt) : Prop := j.p = P ∧ TK w B j H
section
variable {w w' : World} {B : Nat} {P : Value} {j : TD} {H : List Rt}
theorem TP.up (h : TP w B P j H) (hb : Below w.heap.size w w') : TP w' B P j H := ⟨h.1, h.2.up hb⟩
theorem TP.only {S : Nat → Prop} (h : TP w B P j H) (hb : Only S w w') (hS : ∀ k, j.own H.length k → ¬ S k) : TP w' B P j H := ⟨h.1, h.2.only hb hS⟩
end
structure GoP (w w' : World) (B : Nat) (P : Value) (j : TD) (H : List Rt) (k : TD) (G : List Rt) : Prop where
 tp : TP w' B P k G
 mv : Moved w w' j H.length k G.length
theorem GoP.below {w w' : World} {B : Nat} {P : Value} {j k : TD} {H G : List Rt} (h : GoP w w' B P j H k G) (hj : TP w B P j H) (hB : B ≤ w.heap.size) : Below B w w' := h.mv.below (fun _ hx => (hj.2.own_lt hx).1) hB
theorem GoP.g {w w' : World} {B : Nat} {P : Value} {j k : TD} {H G : List Rt} (h : GoP w w' B P j H k G) : k.g = j.g := h.mv.g
theorem GoP.of {w w' : World} {B : Nat} {P : Value} {j : TD} {H G : List Rt} (hj : TP w B P j H) (h : SetG w B j H G w') : ∃ k, GoP w w' B P j H k G := by
 obtain ⟨k, h1, h2⟩ := h
 exact ⟨k, ⟨by rw [← hj.1]; unfold TD.p; rw [h2.b], h1⟩, h2⟩
theorem setP_any {P : Value} {j : TD} {H : List Rt} (x : Rt) {B : Nat} {w : World} (hj : TP w B P j H) (hBw : B ≤ w.heap.size) (hok : okR x.1) (hn : H.length ≤ 900) (E : Int) (hE : (if rtP j.g x then (0 : Int) else 1) = E) : Calls Try.prog 22 #[P, rtVl x] w fun e w' => e = .returned (.int .i64 E) ∧ ∃ k, GoP w w' B P j H k (adR j.g H x) := by
 have h1 := set_any j H x B w hj.2 hBw hok hn
 rw [hj.1] at h1
 refine h1.mono fun e w' h2 => ⟨?_, GoP.of hj h2.2.moved⟩
 rw [← hE]; exact h2.1
theorem getP_any {P : Value} {j : TD} {H : List Rt} (q : RK) {B : Nat} {w : World} (hj : TP w B P j H) (hok : okR q) : Calls Try.prog 27 #[P, .string q.1, .int .i64 q.2.1, .int .i64 q.2.2] w fun e w' => e = .returned (.tuple #[.int .i64 ((tbF H q).getD 0), .bool (tbF H q).isSome]) ∧ w = w' := by
 have h1 := get_any j H q B w hj.2 hok
 rw [hj.1] at h1
 exact h1
theorem hisP_any {P : Value} {j : TD} {H : List Rt} {B : Nat} {w : World} (hj : TP w B P j H) (hn : H.length ≤ 900) : Calls Try.prog 26 #[P] w fun e w' => RowQ w H e w' ∧ Below w.heap.size w w' := by
 have h1 := his_any j H B w hj.2 (by omega)
 rw [hj.1] at h1
 exact h1
theorem listP_any {P : Value} {j : TD} {H : List Rt} {B : Nat} {w : World} (hj : TP w B P j H) (hn : H.length ≤ 900) : Calls Try.prog 28 #[P] w fun e w' => RowQ w (rtL H) e w' ∧ Below w.heap.size w w' := by
 have h1 := list16_any j H B w hj.2 hn
 rw [hj.1] at h1
 exact h1
def NwT (w : World) (g : ByteArray) (e : Ending) (w' : World) : Prop := if curB g = true then ∃ (b : Nat) (j : TD), e = .returned (.tuple #[.pointer (some ⟨b, 0, none⟩), .int .i64 0]) ∧ TP w' w.heap.size (.pointer (some ⟨b, 0, none⟩)) j [] ∧ j.g = g else e = .returned (.tuple #[.pointer none, .int .i64 1])
theorem nwT_any (g : ByteArray) (w : World) : Calls Try.prog 19 #[.string g] w fun e w' => NwT w g e w' ∧ Below w.heap.size w w' := by
 refine (new_any16 g w).mono fun e w' h => ⟨?_, h.2⟩
 have h1 := h.1
 unfold NewT at h1
 unfold NwT
 by_cases hc : curB g = true
 ·rw [if_pos hc] at h1 ⊢
  obtain ⟨b, m, h2, h3⟩ := h1
  exact ⟨b, _, h2, ⟨rfl, h3⟩, rfl⟩
 ·rw [if_neg hc] at h1 ⊢
  exact h1
def OfT (w : World) (g : ByteArray) (L : List Rt) (e : Ending) (w' : World) : Prop := if rtV g L = true then ∃ (b : Nat) (j : TD), e = .returned (.tuple #[.pointer (some ⟨b, 0, none⟩), .int .i64 0]) ∧ TP w' w.heap.size (.pointer (some ⟨b, 0, none⟩)) j L ∧ j.g = g else e = .returned (.tuple #[.pointer none, .int .i64 1])
theorem putP_any {P : Value} {j : TD} {H : List Rt} (x : Rt) {B : Nat} {w : World} (hj : TP w B P j H) (hBw : B ≤ w.heap.size) (hok : okR x.1) (hn : H.length ≤ 5000) : Calls Try.prog 38 #[P, rtVl x] w fun e w' => e = .returned (.tuple #[]) ∧ ∃ k, GoP w w' B P j H k (H ++ [x]) := by
 have h1 := put_any j H x B w hj.2 hBw hok hn
 rw [hj.1] at h1
 exact h1.mono fun e w' h2 => ⟨h2.1, GoP.of hj h2.2.moved⟩
set_option maxRecDepth 100000 in
set_option maxHeartbeats 3200000 in
theorem of16_any (g : ByteArray) (A : Option Addr) (cp : Nat) (L : List Rt) (w : World) (hz : RowAt lyT w A L) (hl : L.length ≤ 100000) (hok : ∀ r ∈ L, okT r) : Calls Try.prog 24 #[.string g, .slice A L.length cp] w fun e w' => OfT w g L e w' ∧ Below w.heap.size w w' := by
 have HV := Lib.hid (valid16_any g A cp L w hz hl hok)
 have HZ := Lib.hid hz
 have HOK := Lib.hid hok
 obtain ⟨n, hnl⟩ : ∃ n, L.length = n := ⟨_, rfl⟩
 have HNL := Lib.hid hnl
 rw [hnl] at HV ⊢
 cases hv : rtV g L
 ·rw [hv] at HV
  have HVE := Lib.hid hv
  clear hz hl hok hnl hv
  go_enter Try.func24, Try.ntmps24
  go_wp2_with (go_at_call 17; refine HV.out.mono ?_; rintro e w1 ⟨rfl, hb⟩; have HB := Lib.hid hb; clear hb)
  go_ret2
  exact ⟨by unfold OfT; rw [HVE.out]; rfl, HB.out⟩
 ·rw [hv] at HV
  have HVE := Lib.hid hv
  have HCU : Hid (curB g = true) := Lib.hid (rtV_iff.1 hv).1
  have HN1 : Hid (n ≤ 1000) := Lib.hid (by rw [← hnl]; exact (rtV_iff.1 hv).2.1)
  have HNW : Hid (∀ W, Calls Try.prog 19 #[.string g] W fun e w' => (∃ (b : Nat) (j : TD), e = .returned (.tuple #[.pointer (some ⟨b, 0, none⟩), .int .i64 0]) ∧ TP w' W.heap.size (.pointer (some ⟨b, 0, none⟩)) j [] ∧ j.g = g) ∧ Below W.heap.size W w') := Lib.hid (fun W => (nwT_any g W).mono fun e w' h => ⟨by have h1 := h.1; unfold NwT at h1; rw [if_pos HCU.out] at h1; exact h1, h.2⟩)
  clear hz hl hok hnl hv
  go_enter Try.func24, Try.ntmps24
  go_wp2_with (first
   | (go_at_call 17; refine HV.out.mono ?_; rintro e w1 ⟨rfl, hb⟩; have HB := Lib.hid hb; clear hb)
   | (go_at_call 19; refine (HNW.out _).mono ?_; rintro e w2 ⟨⟨b, j, rfl, hj, hg⟩, hb⟩; have HJ := Lib.hid hj; have HG := Lib.hid hg; have HB2 := Lib.hid hb; clear hj hg hb))
  obtain ⟨P, hP⟩ : ∃ P, Value.pointer (some ⟨b, 0, none⟩) = P := ⟨_, rfl⟩
  have HPE := Lib.hid hP
  rw [hP] at HJ ⊢
  clear hP
  have hn9 : n ≤ 1000 := HN1.out
  go_loopg [21] n (fun kx s21 wr => ∃ (i : Nat) (k : TD), s21 = .int .i64 (i : Int) ∧ i ≤ n ∧ n - i ≤ kx ∧ Hid (GoP w2 wr w1.heap.size P j [] k (L.take i)))
  case atStart => exact ⟨0, j, rfl, by omega, by omega, Lib.hid ⟨HJ.out, Moved.refl (Below.refl _ _)⟩⟩
  case round =>
   obtain ⟨i, k, rfl, hi, hix, HM⟩ := hrel
   by_cases hlt : i < n
   ·have hltz : (i : Int) < (n : Int) := by omega
    obtain ⟨r, hr⟩ : ∃ r, L[i]? = some r := ⟨_, List.getElem?_eq_getElem (by rw [HNL.out]; exact hlt)⟩
    have HBW : Hid (Below w.heap.size w wr) := Lib.hid (by
     have h1 := HM.out.below HJ.out HB2.out.size
     exact (HB.out.trans (HB2.out.mono HB.out.size)).trans (h1.mono HB.out.size))
    obtain ⟨bb, off, hA9, -, hld⟩ := rt_get HZ.out hr
    subst hA9
    have HOT := Lib.hid (HOK.out r (List.mem_of_getElem? hr))
    have HTK : Hid (L.take (i + 1) = L.take i ++ [r]) := Lib.hid (by rw [List.take_add_one, hr]; rfl)
    obtain ⟨⟨c, kd, m⟩, v⟩ := r
    have HLD : Hid ((Instr.loadAt 24 (.pointer (some ⟨bb, off + i * 4, none⟩))).run Try.prog wr = .ok (.agg #[.string c, .int .i64 kd, .int .i64 m, .int .i64 v]) wr) := Lib.hid (hld wr HBW.out)
    obtain ⟨s5, hs5⟩ : ∃ s5, wr.heap.size = s5 := ⟨_, rfl⟩
    obtain ⟨w6, hw6⟩ : ∃ w6, wr.alloc (.cells #[.string c, .int .i64 kd, .int .i64 m, .int .i64 v] 24) = w6 := ⟨_, rfl⟩
    have HX6 : Hid (Wh 24 w6 s5 (rtC ((c, kd, m), v))) := Lib.hid (by rw [← hw6, ← hs5]; exact rt_box wr c kd m v)
    have HB6 : Hid (Below wr.heap.size wr w6) := Lib.hid (by rw [← hw6]; exact below_alloc_new _)
    have HPU : Hid (Calls Try.prog 38 #[P, .agg #[.string c, .int .i64 kd, .int .i64 m, .int .i64 v]] w6 fun e w' => e = .returned (.tuple #[]) ∧ ∃ k2, GoP w6 w' w1.heap.size P k (L.take i) k2 (L.take i ++ [((c, kd, m), v)])) := Lib.hid (putP_any ((c, kd, m), v) (HM.out.tp.up HB6.out) (Nat.le_trans (Nat.le_trans HB2.out.size HM.out.mv.only.size) HB6.out.size) HOT.out.1 (by rw [List.length_take]; have := HNL.out; omega))
    clear hr hld
    go_wp2_with (first
     | (refine wpList_load_is rfl 24 _ rfl _ rfl (.agg #[.string c, .int .i64 kd, .int .i64 m, .int .i64 v]) HLD.out ?_)
     | (refine wpList_load_is rfl 24 _ rfl (.pointer (some ⟨s5, 0, none⟩)) rfl (.agg #[.string c, .int .i64 kd, .int .i64 m, .int .i64 v]) (rate_load HX6.out) ?_)
     | (go_at_call 38; refine HPU.out.mono ?_; rintro e w7 ⟨rfl, k2, hm2⟩; have HM2 : Hid (GoP w2 w7 w1.heap.size P j [] k2 (L.take (i + 1))) := Lib.hid (by rw [HTK.out]; exact ⟨hm2.tp, HM.out.mv.trans ((Moved.refl HB6.out).trans hm2.mv)⟩); clear hm2))
    go_roundg (n - (i + 1))
    case measure => omega
    case rel => exact ⟨i + 1, k2, by go_num, by omega, by omega, HM2⟩
   ·obtain rfl : i = n := by omega
    have hltz : ¬ (i : Int) < (i : Int) := by omega
    have hT1 : L.take i = L := List.take_of_length_le (by rw [HNL.out]; exact Nat.le_refl _)
    rw [hT1] at HM
    go_wp2_with fail
    go_ret2
    have h1 := HM.out.below HJ.out HB2.out.size
    refine ⟨?_, (HB.out.trans (HB2.out.mono HB.out.size)).trans (h1.mono HB.out.size)⟩
    unfold OfT
    rw [if_pos HVE.out]
    have h2 := HM.out.tp
    exact ⟨b, k, by rw [HPE.out]; rfl, by rw [HPE.out]; exact ⟨h2.1, h2.2.low HB.out.size⟩, HM.out.g.trans HG.out⟩
abbrev eurT : ByteArray := ⟨#[69, 85, 82]⟩
abbrev usd1 : Rt := ((⟨#[85, 83, 68]⟩, 1, 20000), 920000)
abbrev usd2 : Rt := ((⟨#[85, 83, 68]⟩, 1, 20000), 930000)
theorem usd_ok : okR (⟨#[85, 83, 68]⟩, 1, 20000) := ⟨by decide, by decide, by decide⟩
theorem eur_ok : curB eurT = true := by decide +kernel
theorem usd1_ok : rtP eurT usd1 = true := by decide +kernel
theorem usd2_ok : rtP eurT usd2 = true := by decide +kernel
theorem usd_len : (rtL [usd1, usd2]).length = 1 := by decide +kernel
theorem usd_get : (tbF [usd1, usd2] (⟨#[85, 83, 68]⟩, 1, 20000)) = some 930000 := by decide +kernel
set_option maxRecDepth 100000 in
set_option maxHeartbeats 3200000 in
theorem awake16_any (w : World) : Calls Try.prog 11 #[] w fun e w' => e = .returned (.bool true) ∧ Below w.heap.size w w' := by
 have HNW : Hid (Calls Try.prog 19 #[.string eurT] w fun e w' => (∃ (b : Nat) (j : TD), e = .returned (.tuple #[.pointer (some ⟨b, 0, none⟩), .int .i64 0]) ∧ TP w' w.heap.size (.pointer (some ⟨b, 0, none⟩)) j [] ∧ j.g = eurT) ∧ Below w.heap.size w w') := Lib.hid ((nwT_any eurT w).mono fun e w' h => ⟨by have h1 := h.1; unfold NwT at h1; rw [if_pos eur_ok] at h1; exact h1, h.2⟩)
 have HS1 : Hid (∀ (P : Value) (j : TD) (W : World), TP W w.heap.size P j [] → j.g = eurT → w.heap.size ≤ W.heap.size → Calls Try.prog 22 #[P, .agg #[.string ⟨#[85, 83, 68]⟩, .int .i64 1, .int .i64 20000, .int .i64 920000]] W fun e w' => e = .returned (.int .i64 0) ∧ ∃ k, GoP W w' w.heap.size P j [] k [usd1]) := Lib.hid (fun P j W hj hg hB => by
  have h1 := setP_any usd1 hj hB usd_ok (by simp) 0 (by rw [hg, usd1_ok]; rfl)
  rw [show adR j.g [] usd1 = [usd1] by unfold adR; rw [hg, usd1_ok]; rfl] at h1
  exact h1)
 have HS2 : Hid (∀ (P : Value) (j : TD) (W : World), TP W w.heap.size P j [usd1] → j.g = eurT → w.heap.size ≤ W.heap.size → Calls Try.prog 22 #[P, .agg #[.string ⟨#[85, 83, 68]⟩, .int .i64 1, .int .i64 20000, .int .i64 930000]] W fun e w' => e = .returned (.int .i64 0) ∧ ∃ k, GoP W w' w.heap.size P j [usd1] k [usd1, usd2]) := Lib.hid (fun P j W hj hg hB => by
  have h1 := setP_any usd2 hj hB usd_ok (by simp) 0 (by rw [hg, usd2_ok]; rfl)
  rw [show adR j.g [usd1] usd2 = [usd1, usd2] by unfold adR; rw [hg, usd2_ok]; rfl] at h1
  exact h1)
 have HGT : Hid (∀ (P : Value) (j : TD) (W : World), TP W w.heap.size P j [usd1, usd2] → Calls Try.prog 27 #[P, .string ⟨#[85, 83, 68]⟩, .int .i64 1, .int .i64 20000] W fun e w' => e = .returned (.tuple #[.int .i64 930000, .bool true]) ∧ W = w') := Lib.hid (fun P j W hj => by
  have h1 := getP_any (⟨#[85, 83, 68]⟩, 1, 20000) hj usd_ok
  rw [usd_get] at h1
  exact h1)
 have HLS : Hid (∀ (P : Value) (j : TD) (W : World), TP W w.heap.size P j [usd1, usd2] → Calls Try.prog 28 #[P] W fun e w' => (∃ A c, e = .returned (.slice A 1 c)) ∧ Below W.heap.size W w') := Lib.hid (fun P j W hj => (listP_any hj (by simp)).mono fun e w' h => ⟨by obtain ⟨A, c, h1, _⟩ := h.1; rw [usd_len] at h1; exact ⟨A, c, h1⟩, h.2⟩)
 have HHS : Hid (∀ (P : Value) (j : TD) (W : World), TP W w.heap.size P j [usd1, usd2] → Calls Try.prog 26 #[P] W fun e w' => (∃ A c, e = .returned (.slice A 2 c)) ∧ Below W.heap.size W w') := Lib.hid (fun P j W hj => (hisP_any hj (by simp)).mono fun e w' h => ⟨by obtain ⟨A, c, h1, _⟩ := h.1; exact ⟨A, c, h1⟩, h.2⟩)
 have HM1 : Hid True := Lib.hid trivial
 go_enter Try.func11, Try.ntmps11
 go_wp2_with (first
  | (go_at_call 19; refine HNW.out.mono ?_; rintro e w1 ⟨⟨b, j, rfl, hj, hg⟩, hb⟩; have HJ := Lib.hid hj; have HG := Lib.hid hg; have HB := Lib.hid hb; clear hj hg hb)
  | (clear HM1; go_at_call 22; refine (HS1.out _ _ _ HJ.out HG.out HB.out.size).mono ?_; rintro e w2 ⟨rfl, k, hm⟩; have HJ1 := Lib.hid hm.tp; have HG1 := Lib.hid (hm.g.trans HG.out); have HB1 := Lib.hid (HB.out.trans (hm.below HJ.out HB.out.size)); clear hm)
  | (go_at_call 22; refine (HS2.out _ _ _ HJ1.out HG1.out HB1.out.size).mono ?_; rintro e w3 ⟨rfl, k2, hm⟩; have HJ2 := Lib.hid hm.tp; have HB2 := Lib.hid (HB1.out.trans (hm.below HJ1.out HB1.out.size)); clear hm)
  | (go_at_call 27; refine (HGT.out _ _ _ HJ2.out).mono ?_; rintro e w4 ⟨rfl, rfl⟩)
  | (go_at_call 28; refine (HLS.out _ _ _ HJ2.out).mono ?_; rintro e w5 ⟨⟨A5, c5, rfl⟩, hb⟩; have HB5 := Lib.hid hb; have HJ5 := Lib.hid (HJ2.out.up hb); clear hb)
  | (go_at_call 26; refine (HHS.out _ _ _ HJ5.out).mono ?_; rintro e w6 ⟨⟨A6, c6, rfl⟩, hb⟩; have HB6 := Lib.hid hb; clear hb))
 go_ret
 exact ⟨rfl, (HB2.out.trans (HB5.out.mono HB2.out.size)).trans (HB6.out.mono (Nat.le_trans HB2.out.size HB5.out.size))⟩
end Go.Proofs.Ytihgnnocagfdeaa
namespace Go.Proofs
open Go.Shelf
def Try.mapc43_ren : Go.Shelf.Ren := ⟨fun | 5 => 43 | 7 => 52 | n => n, fun | 23 => 57 | 25 => 53 | 3 => 3 | 4 => 4 | 20 => 20 | n => n, fun | n => n⟩
theorem Try.mapc43 : Go.Proofs.SlLaysW.n5 Try.prog Try.mapc43_ren := {
 mixed := by kernel_rfl
 f5 := ⟨Try.f43.name, by decide, Try.func43.trans (congrArg some (by kernel_rfl))⟩
 f7 := Try.func52.trans (congrArg some (by kernel_rfl))
 t4 := Try.underlying4
 a4 := Try.isAgg4
 z4 := Try.sizeOf4
 v4 := Try.zeroValue4
 t20 := Try.underlying20
 a20 := Try.isAgg20
 z20 := Try.sizeOf20
 v20 := Try.zeroValue20
 t23 := Try.underlying57
 a23 := Try.isAgg57
 z23 := Try.sizeOf57
 v23 := Try.zeroValue57 }
end Go.Proofs
namespace Go.Proofs.Ytihgnnocagfdeaa
open Go.RowKit Go.Sort Go.Maps Go.Shelf
def rcP1 (s0 z : Nat) (f : RK → Option Int) (v : Value) (w : World) : Prop := ∃ b, v = .map (some b) ∧ s0 ≤ b ∧ MapR w b z f
def rcP2 (s0 : Nat) (H : List Rt) (v : Value) (w : World) : Prop := ∃ A c, v = .slice A H.length c ∧ OwnR lyT 24 w s0 (.slice A H.length c) H
def rcP3 (s0 z : Nat) (f : RK → Option Int) (g : ByteArray) (H : List Rt) (v : Value) (w : World) : Prop := ∃ b A c, v = .agg #[.string g, .map (some b), .slice A H.length c] ∧ s0 ≤ b ∧ MapR w b z f ∧ OwnR lyT 24 w s0 (.slice A H.length c) H
def rcP4 (s0 z : Nat) (f : RK → Option Int) (g : ByteArray) (H : List Rt) (v : Value) (w : World) : Prop := ∃ p b A c, v = .pointer (some ⟨p, 0, none⟩) ∧ s0 ≤ p ∧ s0 ≤ b ∧ Wh 59 w p [.string g, .map (some b), .slice A H.length c] ∧ MapR w b z f ∧ OwnR lyT 24 w s0 (.slice A H.length c) H
def rcF1 (s0 z : Nat) (f : RK → Option Int) : AK.Fact Below0 := ⟨rcP1 s0 z f, fun _ _ _ hb ⟨b, h1, h2, h3⟩ => ⟨b, h1, h2, h3.up hb⟩⟩
def rcF2 (s0 : Nat) (H : List Rt) : AK.Fact Below0 := ⟨rcP2 s0 H, fun _ _ _ hb ⟨A, c, h1, h2⟩ => ⟨A, c, h1, h2.up hb⟩⟩
def rcF3 (s0 z : Nat) (f : RK → Option Int) (g : ByteArray) (H : List Rt) : AK.Fact Below0 := ⟨rcP3 s0 z f g H, fun _ _ _ hb ⟨b, A, c, h1, h2, h3, h4⟩ => ⟨b, A, c, h1, h2, h3.up hb, h4.up hb⟩⟩
def rcF4 (s0 z : Nat) (f : RK → Option Int) (g : ByteArray) (H : List Rt) : AK.Fact Below0 := ⟨rcP4 s0 z f g H, fun _ _ _ hb ⟨p, b, A, c, h1, h2, h3, h4, h5, h6⟩ => ⟨p, b, A, c, h1, h2, h3, h4.up hb, h5.up hb, h6.up hb⟩⟩
set_option maxRecDepth 100000 in
theorem mapsr_any (w : World) (b z : Nat) (f : RK → Option Int) (h : MapR w b z f) : Calls Try.prog 43 #[.map (some b)] w fun e w' => e = .returned (.map (some w.heap.size)) ∧ MapR w' w.heap.size z f ∧ Below w.heap.size w w' := by
 obtain ⟨D, h1, h2⟩ := h
 have hcon := AnyW.maps_Clone_owns Try.mapc43 53 heldP b z D w h1
 change Calls Try.prog 43 _ _ _ at hcon
 exact hcon.mono fun e w' ⟨he, h3, _, hb⟩ => ⟨he, ⟨D, h3, h2⟩, hb⟩
theorem rc_build (g : ByteArray) (b : Nat) (v : Value) (hv : ∃ A n c, v = .slice A n c) (w : World) : (Instr.build 59 #[(0, .string g), (1, .map (some b)), (2, v)]).run Try.prog w = .ok (.agg #[.string g, .map (some b), v]) w := by
 obtain ⟨A, n, c, rfl⟩ := hv
 exact run_build w 59 _ _ (by kernel_rfl)
def rcL (j : TD) (s0 z : Nat) (f : RK → Option Int) (H : List Rt) : List (Nat × AK.Fact (Below0)) := [(5, AK.Fact.is (.pointer (some ⟨j.b, 0, none⟩))), (6, AK.Fact.is (.pointer (some ⟨j.b, 0, none⟩))), (7, AK.Fact.is (.pointer (some ⟨j.b, 0, none⟩))), (8, AK.Fact.is (.string j.g)), (9, AK.Fact.is (.pointer (some ⟨j.b, 0, none⟩))), (10, AK.Fact.is (.pointer (some ⟨j.b, 0, none⟩))), (11, AK.Fact.is (.pointer (some ⟨j.b, 1, none⟩))), (12, AK.Fact.is (.map (some j.m))), (13, rcF1 s0 z f), (14, AK.Fact.is (.pointer (some ⟨j.b, 0, none⟩))), (15, AK.Fact.is (.pointer (some ⟨j.b, 0, none⟩))), (16, AK.Fact.is (.pointer (some ⟨j.b, 2, none⟩))), (17, AK.Fact.is (.slice j.A H.length j.c)), (18, rcF2 s0 H), (19, rcF3 s0 z f j.g H), (20, rcF4 s0 z f j.g H), (2, rcF4 s0 z f j.g H)]
set_option maxRecDepth 100000 in
set_option maxHeartbeats 3200000 in
theorem clone16_any (j : TD) (H : List Rt) (B : Nat) (w : World) (h : TK w B j H) (hn : H.length ≤ 100000) : Calls Try.prog 32 #[j.p] w fun e w' => (∃ (b : Nat) (k : TD), e = .returned (.pointer (some ⟨b, 0, none⟩)) ∧ TP w' w.heap.size (.pointer (some ⟨b, 0, none⟩)) k H ∧ k.g = j.g) ∧ Below w.heap.size w w' := by
 have HBX := Lib.hid h.box
 have HRW := Lib.hid h.reads
 have HCR := Lib.hid h.cur
 have HHL := Lib.hid hn
 obtain ⟨z, hz⟩ : ∃ z, H.length = z := ⟨_, rfl⟩
 obtain ⟨f, hf⟩ : ∃ f, tbF H = f := ⟨_, rfl⟩
 have HMP : Hid (MapR w j.m z f) := Lib.hid (by rw [← hz, ← hf]; exact h.mp)
 have HZE := Lib.hid hz
 have HFE := Lib.hid hf
 obtain ⟨s0, hs0⟩ : ∃ s0, w.heap.size = s0 := ⟨_, rfl⟩
 have HS2 : Hid (s0 ≤ w.heap.size) := Lib.hid (Nat.le_of_eq hs0.symm)
 have HS0 := Lib.hid hs0
 clear h hz hf hs0 hn
 go_enter Try.func32, Try.ntmps32
 go_wp2_with fail
 refine AK.region_facts (Rp := Below0) (Kp := Below0) (rcL j s0 z f H) (fun _ _ W => Below w.heap.size w W) [[], [5], [6], [7], [], [9], [10], [11], [12], [], [14], [15], [16], [17], [8, 13, 18], [19], [20]] [] [[]] [0, 0, 0, 0, 0, 0, 0, 0, 0, 0, 0, 0, 0, 0, 0, 0, 0] [0, 0, 0, 0, 0, 0, 0, 0, 0, 0, 0, 0, 0, 0, 0, 0, 0] [] (fun u => by simp only [rcL, AK.temps, List.map_cons, List.map_nil, fillL, List.setIfInBounds_toArray, List.set_cons_zero, List.set_cons_succ]; rfl) (by kernel_rfl) (by kernel_rfl) (fun _ _ h => h.size) (fun _ _ h => h) (fun _ _ _ _ hb h => h.trans (hb.mono h.size)) (dc_drew (Below.refl _ _)) ?_ ?_
 ·refine AK.sc (lim := 0) (lo := 0) rfl rfl rfl rfl ?_ ?_
  ·intro k_ u w_ hk_ hl_ hJ hF K hK
   clear hF
   go_simp
   exact hK.out _ _ (Below.refl _ _) (rfl) trivial
  refine AK.sc (lim := 0) (lo := 0) rfl rfl rfl rfl ?_ ?_
  ·intro k_ u w_ hk_ hl_ hJ hF K hK
   have h5 : u 5 = .pointer (some ⟨j.b, 0, none⟩) := AK.facts_get hF 5 (by simp)
   clear hF
   simp only [h5] at hK ⊢
   clear h5
   go_simp
   exact hK.out _ _ (Below.refl _ _) (rfl) trivial
  refine AK.sc (lim := 0) (lo := 0) rfl rfl rfl rfl ?_ ?_
  ·intro k_ u w_ hk_ hl_ hJ hF K hK
   have h6 : u 6 = .pointer (some ⟨j.b, 0, none⟩) := AK.facts_get hF 6 (by simp)
   clear hF
   simp only [h6] at hK ⊢
   clear h6
   go_simp
   exact hK.out _ _ (Below.refl _ _) (rfl) trivial
  refine AK.sc (lim := 0) (lo := 0) rfl rfl rfl rfl ?_ ?_
  ·intro k_ u w_ hk_ hl_ hJ hF K hK
   have h7 : u 7 = .pointer (some ⟨j.b, 0, none⟩) := AK.facts_get hF 7 (by simp)
   clear hF
   simp only [h7] at hK ⊢
   clear h7
   have c_ := (HBX.out.up hJ).at 0 _ rfl
   go_simp
   exact hK.out _ _ (Below.refl _ _) (rfl) trivial
  refine AK.sc (lim := 0) (lo := 0) rfl rfl rfl rfl ?_ ?_
  ·intro k_ u w_ hk_ hl_ hJ hF K hK
   clear hF
   go_simp
   exact hK.out _ _ (Below.refl _ _) (rfl) trivial
  refine AK.sc (lim := 0) (lo := 0) rfl rfl rfl rfl ?_ ?_
  ·intro k_ u w_ hk_ hl_ hJ hF K hK
   have h9 : u 9 = .pointer (some ⟨j.b, 0, none⟩) := AK.facts_get hF 9 (by simp)
   clear hF
   simp only [h9] at hK ⊢
   clear h9
   go_simp
   exact hK.out _ _ (Below.refl _ _) (rfl) trivial
  refine AK.sc (lim := 0) (lo := 0) rfl rfl rfl rfl ?_ ?_
  ·intro k_ u w_ hk_ hl_ hJ hF K hK
   have h10 : u 10 = .pointer (some ⟨j.b, 0, none⟩) := AK.facts_get hF 10 (by simp)
   clear hF
   simp only [h10] at hK ⊢
   clear h10
   go_simp
   exact hK.out _ _ (Below.refl _ _) (rfl) trivial
  refine AK.sc (lim := 0) (lo := 0) rfl rfl rfl rfl ?_ ?_
  ·intro k_ u w_ hk_ hl_ hJ hF K hK
   have h11 : u 11 = .pointer (some ⟨j.b, 1, none⟩) := AK.facts_get hF 11 (by simp)
   clear hF
   simp only [h11] at hK ⊢
   clear h11
   have c_ := (HBX.out.up hJ).at 1 _ rfl
   go_simp
   exact hK.out _ _ (Below.refl _ _) (rfl) trivial
  refine AK.sc (lim := 0) (lo := 0) rfl rfl rfl rfl ?_ ?_
  ·intro k_ u w_ hk_ hl_ hJ hF K hK
   have h12 : u 12 = .map (some j.m) := AK.facts_get hF 12 (by simp)
   clear hF
   simp only [h12] at hK ⊢
   clear h12
   have HM9 := HMP.out.up hJ
   go_simp
   refine (mapsr_any w_ j.m z f HM9).mono ?_
   rintro e w6 ⟨rfl, hm6, hb6⟩
   exact hK.out _ _ hb6 ⟨_, rfl, Nat.le_trans (by have := HS2.out; omega) hJ.size, hm6⟩ trivial
  refine AK.sc (lim := 0) (lo := 0) rfl rfl rfl rfl ?_ ?_
  ·intro k_ u w_ hk_ hl_ hJ hF K hK
   clear hF
   go_simp
   exact hK.out _ _ (Below.refl _ _) (rfl) trivial
  refine AK.sc (lim := 0) (lo := 0) rfl rfl rfl rfl ?_ ?_
  ·intro k_ u w_ hk_ hl_ hJ hF K hK
   have h14 : u 14 = .pointer (some ⟨j.b, 0, none⟩) := AK.facts_get hF 14 (by simp)
   clear hF
   simp only [h14] at hK ⊢
   clear h14
   go_simp
   exact hK.out _ _ (Below.refl _ _) (rfl) trivial
  refine AK.sc (lim := 0) (lo := 0) rfl rfl rfl rfl ?_ ?_
  ·intro k_ u w_ hk_ hl_ hJ hF K hK
   have h15 : u 15 = .pointer (some ⟨j.b, 0, none⟩) := AK.facts_get hF 15 (by simp)
   clear hF
   simp only [h15] at hK ⊢
   clear h15
   go_simp
   exact hK.out _ _ (Below.refl _ _) (rfl) trivial
  refine AK.sc (lim := 0) (lo := 0) rfl rfl rfl rfl ?_ ?_
  ·intro k_ u w_ hk_ hl_ hJ hF K hK
   have h16 : u 16 = .pointer (some ⟨j.b, 2, none⟩) := AK.facts_get hF 16 (by simp)
   clear hF
   simp only [h16] at hK ⊢
   clear h16
   have c_ := (HBX.out.up hJ).at 2 _ rfl
   go_simp
   exact hK.out _ _ (Below.refl _ _) (rfl) trivial
  refine AK.sc (lim := 0) (lo := 0) rfl rfl rfl rfl ?_ ?_
  ·intro k_ u w_ hk_ hl_ hJ hF K hK
   have h17 : u 17 = .slice j.A H.length j.c := AK.facts_get hF 17 (by simp)
   clear hF
   simp only [h17] at hK ⊢
   clear h17
   have hr9 := HRW.out.up hJ
   go_simp
   refine (cloneT_any j.A j.c H w_ hr9 HHL.out).mono ?_
   rintro e w6 ⟨⟨A6, c6, rfl, ho6⟩, hb6⟩
   exact hK.out _ _ hb6 ⟨_, _, rfl, ho6.low (Nat.le_trans (by have := HS2.out; omega) hJ.size)⟩ trivial
  refine AK.sc (lim := 0) (lo := 0) rfl rfl rfl rfl ?_ ?_
  ·intro k_ u w_ hk_ hl_ hJ hF K hK
   have h8 : u 8 = .string j.g := AK.facts_get hF 8 (by simp)
   have h13 : rcP1 s0 z f (u 13) w_ := AK.facts_get hF 13 (by simp)
   have h18 : rcP2 s0 H (u 18) w_ := AK.facts_get hF 18 (by simp)
   clear hF
   obtain ⟨b13, h13, hb13, hm13⟩ := h13
   obtain ⟨A18, c18, h18, ho18⟩ := h18
   simp only [h8, h13, h18] at hK ⊢
   clear h8 h13 h18
   refine wp_build_is 59 _ rfl [(0, .string j.g), (1, .map (some b13)), (2, .slice A18 H.length c18)] rfl (.agg #[.string j.g, .map (some b13), .slice A18 H.length c18]) (rc_build _ _ _ ⟨_, _, _, rfl⟩ _) ?_
   exact hK.out _ _ (Below.refl _ _) ⟨_, _, _, rfl, hb13, hm13, ho18⟩ trivial
  refine AK.sc (lim := 0) (lo := 0) rfl rfl rfl rfl ?_ ?_
  ·intro k_ u w_ hk_ hl_ hJ hF K hK
   have h19 : rcP3 s0 z f j.g H (u 19) w_ := AK.facts_get hF 19 (by simp)
   clear hF
   obtain ⟨b19, A19, c19, h19, hb19, hm19, ho19⟩ := h19
   simp only [h19] at hK ⊢
   clear h19
   go_simp
   exact hK.out _ _ (below_alloc_new _) ⟨_, _, _, _, rfl, by have := HS2.out; have := hJ.size; omega, hb19, Wh.new _ 59 [.string j.g, .map (some b19), .slice A19 H.length c19], hm19.up (below_alloc_new _), ho19.up (below_alloc_new _)⟩ trivial
  refine AK.sc (lim := 0) (lo := 0) rfl rfl rfl rfl ?_ ?_
  ·intro k_ u w_ hk_ hl_ hJ hF K hK
   have h20 : rcP4 s0 z f j.g H (u 20) w_ := AK.facts_get hF 20 (by simp)
   clear hF
   obtain ⟨p20, b20, A20, c20, h20, hp20⟩ := h20
   simp only [h20] at hK ⊢
   clear h20
   go_simp
   exact hK.out _ _ (Below.refl _ _) ⟨p20, b20, A20, c20, rfl, hp20⟩ trivial
  exact AK.StepsOk.nil
 ·intro u W9 hJ9 hF
  have h2 : rcP4 s0 z f j.g H (u 2) W9 := AK.facts_get hF 2 (by simp [rcL, AK.temps])
  clear hF
  obtain ⟨p, b, A, c, h2, hp, hb, hw, hm, ho⟩ := h2
  simp only [h2]
  have HW := Lib.hid hw
  have HM := Lib.hid hm
  have HO := Lib.hid ho
  have HB9 := Lib.hid hJ9
  clear hw hm ho hJ9
  go_wp2_with fail
  go_ret
  refine ⟨⟨p, ⟨p, j.g, b, A, c⟩, by first | rfl | simp, ⟨rfl, HW.out, by rw [HZE.out, HFE.out]; exact HM.out, by rw [HS0.out]; exact HO.out, HCR.out, by rw [HS0.out]; exact hp, by rw [HS0.out]; exact hb⟩, rfl⟩, HB9.out⟩
open Go.ChangeShapes Go.WideShapes Go.ChangeAt Go.WideMaps Go.WideElems Go.RowKit Go.Deep Go.Joins
theorem list_of_all {α : Type} {S : Nat → α → Prop} : ∀ n : Nat, (∀ k, k < n → ∃ a, S k a) → ∃ L : List α, L.length = n ∧ ∀ k, k < n → ∃ a, L[k]? = some a ∧ S k a
 | 0, _ => ⟨[], rfl, fun k h => absurd h (by omega)⟩
 | n + 1, h => by
  obtain ⟨L, hl, hL⟩ := list_of_all n fun k hk => h k (by omega)
  obtain ⟨a, ha⟩ := h n (by omega)
  refine ⟨L ++ [a], by simp [hl], fun k hk => ?_⟩
  rcases Nat.lt_or_ge k n with h1 | h1
  ·obtain ⟨b, hb, hs⟩ := hL k h1
   exact ⟨b, by rw [List.getElem?_append_left (by omega)]; exact hb, hs⟩
  ·obtain rfl : k = n := by omega
   exact ⟨a, by rw [List.getElem?_append_right (by omega), hl]; simp, ha⟩
section
variable {H : Type} {enc : TypeId × Value → H} {P : Program} {W : World}
theorem open_rowsG {α : Type} (R : Lay α) {T E : TypeId} {fuel : Nat} {cs : List Value} {x : DataW H × List MemPlace} (hT : P.underlying T = some (.slice E)) (hC : P.cellsOf E = R.s) (q : α → Prop)
  (hread : ∀ fuel cs x, DataW.trod enc P W 0 (fun _ => true) true fuel E cs = some x → ∃ a, cs = R.cel a ∧ q a)
  (hf : DataW.trod enc P W 0 (fun _ => true) true fuel T cs = some x) :
  ∃ A len cap L, cs = [.slice A len cap] ∧ L.length = len ∧ len ≤ 9223372036854775807 ∧ RowAt R W A L ∧ ∀ a ∈ L, q a := by
 rcases open_slice hT hf with ⟨hcs, -⟩ | ⟨a, len, cap, m, n, D, Pl, hcs, -, hl, hm, hmm, -, hx⟩
 ·exact ⟨none, 0, 0, [], hcs, rfl, by omega, RowAt.nil, fun a ha => by cases ha⟩
 ·simp only [if_true] at hmm
  subst hmm
  unfold maxLen at hm
  have key : ∀ k, k < len → ∃ y : α, (∀ j v, (R.cel y)[j]? = some v → W.cell? (a.add (k * R.s + j)) = some v) ∧ q y := by
   intro k hk
   obtain ⟨cs', h1, h2⟩ := hx k (by omega)
   rw [hC] at h1
   obtain ⟨_, hlen, hcell⟩ := World.cells?_some h1
   obtain ⟨y, rfl, hq⟩ := hread _ _ _ h2
   refine ⟨y, fun j v hj => ?_, hq⟩
   have hjl : j < (R.cel y).length := (List.getElem?_eq_some_iff.1 hj).1
   have h4 := hcell j (by rw [R.len] at hjl; omega)
   rw [add_add] at h4
   rw [h4, hj]
  obtain ⟨L, hLl, hL⟩ := list_of_all len key
  obtain ⟨b, off, spot⟩ := a
  refine ⟨_, len, _, L, hcs, hLl, by omega, fun h0 => ?_, fun y hy => ?_⟩
  ·rw [hLl] at h0
   obtain ⟨y0, hy0, hc0, -⟩ := hL 0 h0
   have hz0 := hc0 0 _ (List.getElem?_eq_getElem (by rw [R.len]; exact R.pos))
   have hspot : spot = none := by simpa [Addr.add] using World.cell?_spot hz0
   subst hspot
   have hlt : b < W.heap.size := by
    rcases Nat.lt_or_ge b W.heap.size with hlt | hge
    ·exact hlt
    ·unfold World.cell? at hz0
     rw [show (Addr.add ⟨b, off, none⟩ (0 * R.s + 0)).block = b from by rw [block_add], Array.getElem?_eq_none hge] at hz0
     simp at hz0
   refine ⟨b, off, rfl, hlt, fun j v hj => ?_⟩
   have hjl : j < len * R.s := by
    rw [← hLl, ← R.all_len]
    exact (List.getElem?_eq_some_iff.1 hj).1
   have hs := R.pos
   have hi : j / R.s < len := Nat.div_lt_of_lt_mul (by rw [Nat.mul_comm]; exact hjl)
   obtain ⟨y, hy, hc, -⟩ := hL (j / R.s) hi
   have hr : j % R.s < R.s := Nat.mod_lt _ hs
   have he : j / R.s * R.s + j % R.s = j := by rw [Nat.mul_comm]; exact Nat.div_add_mod _ _
   have h5 := hc (j % R.s) v (by rw [← R.get L (j / R.s) y hy _ hr, he]; exact hj)
   rw [he, Go.WideShapes.add_plain] at h5
   exact h5
  ·obtain ⟨k, hk⟩ := List.getElem?_of_mem hy
   have hkl : k < len := by rw [← hLl]; exact (List.getElem?_eq_some_iff.1 hk).1
   obtain ⟨z, hz, -, hq⟩ := hL k hkl
   rw [hk] at hz
   injection hz with hz
   subst hz
   exact hq
end
section
variable {H : Type} {enc : TypeId × Value → H} {W : World}
end
section
variable {H : Type} {enc : TypeId × Value → H} {P : Program} {w : World} {r : Reach} {b0 base : Nat} {t e : TypeId} {k : IntKind} {spare : Nat → Bool} {held : Bool} {v : Value} {d : DataW H} {ps : List MemPlace}
end
open Go.ChangeShapes Go.WideShapes Go.ChangeAt Go.WideMaps Go.WideElems Go.RowKit Go.Deep Go.Joins
theorem cells4T {cs : List Value} (h : cs.length = 4) : ∃ c0 c1 c2 c3, cs = [c0, c1, c2, c3] := by
 match cs, h with
 | [c0, c1, c2, c3], _ => exact ⟨c0, c1, c2, c3, rfl⟩
section
variable {H : Type} {enc : TypeId × Value → H} {W : World}
set_option maxRecDepth 100000 in
theorem open_rateC {fuel : Nat} {cs : List Value} {x : DataW H × List MemPlace} (hf : DataW.trod enc Try.prog W 0 (fun _ => true) true fuel 24 cs = some x) : ∃ a : Rt, cs = rtC a ∧ okT a := by
 obtain ⟨xs, n', -, -, hlen, hxl, hff⟩ := DataW.trod_struct Try.underlying24 hf
 have hC : Try.prog.cellsOf 24 = 4 := by kernel_rfl
 rw [hC] at hlen
 obtain ⟨c0, c1, c2, c3, e7⟩ := cells4T hlen
 have hxl' : xs.length = 4 := hxl
 have hget : ∀ i, i < 4 → ∃ y, xs[i]? = some y := fun i hi => ⟨_, List.getElem?_eq_getElem (by omega)⟩
 have ki : Try.prog.cellsOf 3 = 1 := by kernel_rfl
 have ks : Try.prog.cellsOf 9 = 1 := by kernel_rfl
 have h0 : DataW.trod enc Try.prog W 0 (fun _ => true) true n' 9 ((cs.drop 0).take (Try.prog.cellsOf 9)) = xs[0]? := hff 0 _ rfl
 obtain ⟨y0, e0⟩ := hget 0 (by omega)
 rw [e0, ks, e7] at h0
 have h1 : DataW.trod enc Try.prog W 0 (fun _ => true) true n' 3 ((cs.drop 1).take (Try.prog.cellsOf 3)) = xs[1]? := hff 1 _ rfl
 obtain ⟨y1, e1⟩ := hget 1 (by omega)
 rw [e1, ki, e7] at h1
 have h2 : DataW.trod enc Try.prog W 0 (fun _ => true) true n' 3 ((cs.drop 2).take (Try.prog.cellsOf 3)) = xs[2]? := hff 2 _ rfl
 obtain ⟨y2, e2⟩ := hget 2 (by omega)
 rw [e2, ki, e7] at h2
 have h3 : DataW.trod enc Try.prog W 0 (fun _ => true) true n' 3 ((cs.drop 3).take (Try.prog.cellsOf 3)) = xs[3]? := hff 3 _ rfl
 obtain ⟨y3, e3⟩ := hget 3 (by omega)
 rw [e3, ki, e7] at h3
 obtain ⟨z0, q0, -, w0⟩ := DataW.trod_string Try.underlying9 h0
 have a0 : c0 = .string z0 := by simpa using q0
 obtain ⟨z1, q1, -, w1⟩ := DataW.trod_int Try.underlying3 h1
 have a1 : c1 = .int .i64 z1 := by simpa using q1
 obtain ⟨z2, q2, -, w2⟩ := DataW.trod_int Try.underlying3 h2
 have a2 : c2 = .int .i64 z2 := by simpa using q2
 obtain ⟨z3, q3, -, w3⟩ := DataW.trod_int Try.underlying3 h3
 have a3 : c3 = .int .i64 z3 := by simpa using q3
 subst a0 a1 a2 a3
 exact ⟨((z0, z1, z2), z3), e7, ⟨w0, w1, w2⟩, w3⟩
set_option maxRecDepth 100000 in
theorem open_irate {b0 : Nat} {v : Value} {d : DataW H} {p : List MemPlace} (hval : Value.okWide Try.prog W .any b0 24 v) (h : DataW.Trod enc Try.prog W 0 (fun _ => true) true 24 v d p) :
  ∃ a : Rt, v = rtVl a ∧ okT a := by
 obtain ⟨cs, rfl, hsz⟩ := okWide_struct Try.underlying24 hval
 obtain ⟨fuel, hf⟩ := h
 have hcs : (Value.agg cs).cells.toList = cs.toList := by simp [Value.cells]
 rw [hcs] at hf
 obtain ⟨a, ha, hq⟩ := open_rateC hf
 exact ⟨a, by rw [← Array.toArray_toList (xs := cs), ha]; rfl, hq⟩
def LenT (d : DataW H) (len : Nat) : Prop := d = .nil ∧ len = 0 ∨ ∃ es sp, d = .slice es sp ∧ es.length = len
set_option maxRecDepth 100000 in
theorem open_irates {b0 : Nat} {v : Value} {d : DataW H} {p : List MemPlace} (hval : Value.okWide Try.prog W .any b0 22 v) (h : DataW.Trod enc Try.prog W 0 (fun _ => true) true 22 v d p) :
  ∃ A len c S, v = .slice A len c ∧ S.length = len ∧ LenT d len ∧ RowAt lyT W A S ∧ ∀ s ∈ S, okT s := by
 obtain ⟨a0, len, cap, rfl⟩ := okWide_slice Try.underlying22 hval
 obtain ⟨fuel, hf⟩ := h
 obtain ⟨A, len', c, S, hcs, hl, hm, hr, hq⟩ := open_rowsG lyT Try.underlying22 (by kernel_rfl) okT (fun _ _ _ h => open_rateC h) hf
 simp [Value.cells] at hcs
 obtain ⟨rfl, rfl, rfl⟩ := hcs
 refine ⟨_, _, _, S, rfl, hl, ?_, hr, hq⟩
 rcases open_slice Try.underlying22 hf with ⟨hcs, hx⟩ | ⟨a, len, cap, m, n, D, Pl, hcs, -, hl, hm, hmm, hx, -⟩
 ·simp [Value.cells] at hcs hx
  exact .inl ⟨hx.1, hcs.2.1⟩
 ·simp [Value.cells] at hcs hx
  obtain ⟨rfl, rfl, rfl⟩ := hcs
  exact .inr ⟨_, _, hx.1, by simp⟩
theorem rates_small {ts : List TypeId} {ds : List (DataW H)} (h : (DataW.weightsEach Try.prog ts ds).all (· ≤ reachBytes) = true) {j : Nat} {d : DataW H} (ht : ts[j]? = some 22) (hd : ds[j]? = some d) {len : Nat} (hl : LenT d len) : len ≤ 3518437208780 := by
 rcases hl with ⟨_, rfl⟩ | ⟨es, sp, rfl, rfl⟩
 ·omega
 ·have h1 := sized_slice h ht hd Try.underlying22
  rw [show Try.prog.bytesOf 24 = 40 by kernel_rfl] at h1
  unfold reachBytes at h1
  omega
end
open Go.RowKit Go.Sort
structure Tri16 (W : World) (V : Nat → Value) (N : Nat → Nat) (B : Nat) : Prop where
 row : ∀ i, i < 3 → ∃ M : List Rt, M.length = N i ∧ OwnR lyT 24 W B (V i) M
 ap : ∀ i j, i < 3 → j < 3 → i ≠ j → ∀ g, (V i).ownBlock = some g → (V j).ownBlock ≠ some g
theorem Tri16.put {W : World} {V : Nat → Value} {N : Nat → Nat} {B : Nat} (h : Tri16 W V N B) {i g k n c : Nat} (hi : i < 3) (hV : V i = .slice (some ⟨g, 0, none⟩) n c) (hk : k < N i) : Tri16 (W.setCell ⟨g, k * 4 + 3, none⟩ (.int .i64 7)) V N B := by
 refine ⟨fun j hj => ?_, h.ap⟩
 obtain ⟨M, h1, h2⟩ := h.row j hj
 by_cases e : j = i
 ·subst e
  rw [hV] at h2 ⊢
  obtain ⟨x, hx⟩ : ∃ x, M[k]? = some x := ⟨_, List.getElem?_eq_getElem (by omega)⟩
  refine ⟨M.set k (x.1, 7), by simpa using h1, ?_⟩
  exact h2.setf (R := lyT) hx (by decide) (.int .i64 7) rfl
 ·refine ⟨M, h1, h2.blk fun g' hg' => Below.heap_setCell W ⟨g, k * 4 + 3, none⟩ _ g' (fun e2 => ?_)⟩
  have e3 : g' = g := e2
  subst e3
  exact h.ap j i hj hi e g' hg' (by rw [hV]; rfl)
theorem rowR {W : World} {B n c : Nat} {A : Option Addr} {M : List Rt} (h : OwnR lyT 24 W B (.slice A n c) M) : RowAt lyT W A M := by
 obtain ⟨A5, c5, e5, h5, _⟩ := h.reads
 cases e5
 exact h5
def triS (V : Nat → Value) (g : Nat) : Prop := ∃ i, i < 3 ∧ (V i).ownBlock = some g
theorem own_cell16 {W : World} {B g n c k : Nat} {M : List Rt} (h : OwnR lyT 24 W B (.slice (some ⟨g, 0, none⟩) n c) M) (hk : k < M.length) : (∃ v, W.cell? ⟨g, k * 4 + 3, none⟩ = some v) ∧ W.frozen? ⟨g, k * 4 + 3, none⟩ = false ∧ B ≤ g ∧ g < W.heap.size := by
 have hlt := h.lt (g := g) rfl
 rcases h.2 with ⟨h9, _⟩ | ⟨g', cap, cur, h9, hbg, hg, hn, hcap, hsz, hcur⟩
 ·cases h9
 ·cases h9
  refine ⟨?_, by simp [World.frozen?, hg], hlt.1, hlt.2⟩
  have h4 : k * 4 + 3 < cur.size := by rw [hsz, show lyT.s = 4 from rfl]; omega
  exact ⟨cur[k * 4 + 3], by simp [World.cell?, hg, h4]⟩
def rtcpF0 (g : ByteArray) (A : Option Addr) (n c _s0 B2 : Nat) (k : Rt) (_F : Bool) (_V9 : Bool) : List (Nat × AK.Fact (KpT 1)) := [(51, AK.Fact.is (.string g)), (52, nilF 1 B2), (53, AK.Fact.is (.slice A n c)), (54, AK.Fact.triv), (55, AK.Fact.is (rtVl k)), (56, boxF [k]), (57, AK.Fact.triv), (58, AK.Fact.is (.bool false)), (59, AK.Fact.is (.bool true)), (60, AK.Fact.is (.bool true)), (61, AK.Fact.is (undef)), (62, AK.Fact.is (undef)), (63, AK.Fact.is (undef)), (64, AK.Fact.is (undef)), (65, AK.Fact.is (.bool true))]
def rtcpF1 (g : ByteArray) (A : Option Addr) (n c _s0 B2 : Nat) (k : Rt) (_F : Bool) (V9 : Bool) : List (Nat × AK.Fact (KpT 1)) := [(51, AK.Fact.is (.string g)), (52, nilF 1 B2), (53, AK.Fact.is (.slice A n c)), (54, AK.Fact.triv), (55, AK.Fact.is (rtVl k)), (56, boxF [k]), (57, AK.Fact.triv), (58, AK.Fact.is (.bool true)), (59, AK.Fact.is (.bool false)), (60, AK.Fact.is (.bool false)), (61, AK.Fact.is (.string g)), (62, AK.Fact.is (.slice A n c)), (63, AK.Fact.is (.bool V9)), (64, AK.Fact.is (.bool (!V9))), (65, AK.Fact.is (.bool (!V9)))]
set_option maxRecDepth 100000 in
set_option maxHeartbeats 6400000 in
theorem law_rcopies16 (g : ByteArray) (A : Option Addr) (n c : Nat) (L : List Rt) (k : Rt) (w : World) (hgm : g.size ≤ maxLen) (hnl : L.length = n) (hnm : n ≤ 3518437208780) (hz : RowAt lyT w A L) (hok : ∀ s ∈ L, okT s) (hkk : okT k) :
  Calls Try.prog 10 #[.string g, .slice A n c, rtVl k] w fun e w' => e = .returned (.bool true) ∧ Below w.heap.size w w' := by
 obtain ⟨i0, hi, hz1, hz2, hz3⟩ := info_parts infoT
 have HAW := Lib.hid awake16_any
 obtain ⟨s0, hs0⟩ : ∃ s0, w.heap.size = s0 := ⟨_, rfl⟩
 obtain ⟨w1, hw1⟩ : ∃ w1, w.alloc (.cells #[.string k.1.1, .int .i64 k.1.2.1, .int .i64 k.1.2.2, .int .i64 k.2] 24) = w1 := ⟨_, rfl⟩
 have HXB1 : Hid (Wh 24 w1 s0 (rtC k)) := Lib.hid (by rw [← hw1, ← hs0]; exact Wh.new w _ _)
 have HB1 : Hid (Below w.heap.size w w1) := Lib.hid (by rw [← hw1]; exact below_alloc_new _)
 have HS0 := Lib.hid hs0
 have HNL := Lib.hid hnl
 have HZ1 := Lib.hid (hz.up HB1.out)
 have HOL := Lib.hid hok
 have HOK := Lib.hid hkk
 have HGM := Lib.hid hgm
 have HNM := Lib.hid hnm
 have HBC : Hid (Below w.heap.size w w1) := HB1
 clear hnl hz hok hkk hgm hnm
 have HM1 : Hid True := Lib.hid trivial
 have HM2 : Hid True := Lib.hid trivial
 have HM3 : Hid True := Lib.hid trivial
 have HM4 : Hid True := Lib.hid trivial
 have HM5 : Hid True := Lib.hid trivial
 have HM6 : Hid True := Lib.hid trivial
 have HM7 : Hid True := Lib.hid trivial
 have HM8 : Hid True := Lib.hid trivial
 have HM9 : Hid True := Lib.hid trivial
 have HM10 : Hid True := Lib.hid trivial
 have HM11 : Hid True := Lib.hid trivial
 have HM12 : Hid True := Lib.hid trivial
 have HM13 : Hid True := Lib.hid trivial
 have HM14 : Hid True := Lib.hid trivial
 have HM15 : Hid True := Lib.hid trivial
 have HM16 : Hid True := Lib.hid trivial
 have HM17 : Hid True := Lib.hid trivial
 have HM18 : Hid True := Lib.hid trivial
 have HM19 : Hid True := Lib.hid trivial
 have HBC : Hid (Below w1.heap.size w1 w1) := Lib.hid (Below.refl _ _)
 have HGN : Hid (∀ W, Calls Try.prog 27 #[.pointer none, .string g, .int .i64 1, .int .i64 0] W fun e w' => e = .returned (.tuple #[.int .i64 0, .bool false]) ∧ W = w') := Lib.hid (fun W => get_nil (g, 1, 0) W)
 go_enter Try.func10, Try.ntmps10
 go_upto_region 7 with (first
  | (go_at_call 11; refine (HAW.out _).mono ?_; rintro e w20 ⟨rfl, hb⟩; have hB3 := Lib.hid (HBC.out.trans (hb.mono HBC.out.size)); clear HBC; have HBC := hB3; clear hB3 hb)
  | (go_at_call 27; refine (HGN.out _).mono ?_; rintro e w21 ⟨rfl, rfl⟩)
  | (refine wpList_load_is rfl 24 _ rfl (.pointer (some ⟨s0, 0, none⟩)) rfl (rtVl k) (rate_load (HXB1.out.up HBC.out)) ?_)
  | (go_at_call 22; refine (set_nil k _).mono ?_; rintro e w22 ⟨rfl, hb⟩; have hB3 := Lib.hid (HBC.out.trans (hb.mono HBC.out.size)); clear HBC; have HBC := hB3; clear hB3 hb)
  | (go_at_call 28; refine (listT_nil _).mono ?_; rintro e w23 ⟨rfl, rfl⟩)
  | (go_at_call 26; refine (his_nil _).mono ?_; rintro e w24 ⟨rfl, rfl⟩)
  | (go_at_call 32; refine (clone_nil16 _).mono ?_; rintro e w25 ⟨rfl, rfl⟩))
 have HB2 := HBC
 clear HBC
 have HXB : Hid (Wh 24 w22 s0 (rtC k)) := Lib.hid (HXB1.out.up HB2.out)
 have HRL : Hid (RowAt lyT w22 A L) := Lib.hid (HZ1.out.up HB2.out)
 obtain ⟨B2, hB2⟩ : ∃ B2, w22.heap.size = B2 := ⟨_, rfl⟩
 have HB2E := Lib.hid hB2
 obtain ⟨Lq, hLq⟩ : ∃ Lq, L ++ [k] = Lq := ⟨_, rfl⟩
 have HLQ := Lib.hid hLq
 obtain ⟨F, hF⟩ : ∃ F, fewT g Lq = F := ⟨_, rfl⟩
 have HFE := Lib.hid hF
 have HFW : Hid (∀ A9 c9 W, RowAt lyT W A9 Lq → Calls Try.prog 12 #[.string g, .slice A9 Lq.length c9] W fun e w' => e = .returned (.bool F) ∧ W = w') := Lib.hid (fun A9 c9 W h => by rw [← hF]; exact few16_any g A9 c9 Lq W h (by rw [← hLq, List.length_append, HNL.out]; have := HNM.out; simp; omega))
 have HBW : Hid (∀ W, Below w22.heap.size w22 W → Below w.heap.size w W) := Lib.hid (fun W h => (HB1.out.trans (HB2.out.mono HB1.out.size)).trans (h.mono (Nat.le_trans HB1.out.size HB2.out.size)))
 clear hB2 hLq hF
 cases F
 ·refine AK.region_facts (Rp := Below0) (Kp := KpT 1) (rtcpF0 g A n c s0 B2 k false true) (rhJ w22 L Lq) [[], [], [], [52, 53], [], [55], [54, 56], [51, 57], [58], [59], [60], [60], [60], [60], [60, 64]] [3, 6] [[], [54], [57]] [2, 2, 2, 2, 2, 2, 2, 2, 2, 2, 2, 2, 2, 2, 2] [0, 0, 0, 0, 0, 0, 0, 2, 0, 0, 0, 0, 0, 0, 0] [] (fun u => by simp only [rtcpF0, AK.temps, List.map_cons, List.map_nil, fillL, List.setIfInBounds_toArray, List.set_cons_zero, List.set_cons_succ]; rfl) (by kernel_rfl) (by kernel_rfl) (fun _ _ h => h.1) (fun _ _ h => KpT.of h) (rhJ.st _ _ _) (dc_drew (Below.refl _ _)) ?_ ?_
  ·refine AK.sc (lim := 2) (lo := 0) rfl rfl rfl rfl ?_ ?_
   ·intro k_ u w_ hk_ hl_ hJ hF K hK
    clear hF
    go_simp
    exact hK.out _ _ (Below.refl _ _) (rfl) trivial
   refine AK.sc (lim := 2) (lo := 0) rfl rfl rfl rfl ?_ ?_
   ·intro k_ u w_ hk_ hl_ hJ hF K hK
    clear hF
    go_simp
    have hb9 := rhJ.low hJ
    exact hK.out _ _ (below_alloc_new _) (nilT_new (by rw [← HB2E.out]; exact hb9.size)) trivial
   refine AK.sc (lim := 2) (lo := 0) rfl rfl rfl rfl ?_ ?_
   ·intro k_ u w_ hk_ hl_ hJ hF K hK
    clear hF
    go_simp
    exact hK.out _ _ (Below.refl _ _) (rfl) trivial
   refine AK.ss rfl rfl ?_ ?_
   ·intro u w_ hJ hA_ hF K hK
    have h52 : NilT B2 (u 52) w_ := AK.facts_get hF 52 (by simp)
    have h53 : u 53 = .slice A n c := AK.facts_get hF 53 (by simp)
    clear hF
    simp only [h53] at hK ⊢
    clear h53
    have hb9 := rhJ.low hJ
    refine wp_app_copy (.tmp 52) (.tmp 53) 22 rfl i0 _ Try.underlying22 hi hz1 hz2 hz3 rfl rfl h52 A n c L HNL.out rfl (HRL.out.up hb9) (by have := HNM.out; omega) (by rw [← HB2E.out]; exact hb9.size) ?_
    intro v' w' ho' hb'
    rw [← HB2E.out] at ho'
    exact hK.out _ _ ⟨Below.trans hb9 (hb'.mono hb9.size), fun v hv => by cases hv; exact ho'⟩ (KpT.of hb') trivial
   refine AK.sc (lim := 2) (lo := 0) rfl rfl rfl rfl ?_ ?_
   ·intro k_ u w_ hk_ hl_ hJ hF K hK
    clear hF
    have hb9 := rhJ.low hJ
    refine wp_load_is 24 _ rfl _ rfl (rtVl k) (rate_load (HXB.out.up hb9)) ?_
    exact hK.out _ _ (Below.refl _ _) (rfl) trivial
   refine AK.sc (lim := 2) (lo := 0) rfl rfl rfl rfl ?_ ?_
   ·intro k_ u w_ hk_ hl_ hJ hF K hK
    have h55 : u 55 = rtVl k := AK.facts_get hF 55 (by simp)
    clear hF
    simp only [h55] at hK ⊢
    clear h55
    go_simp
    exact hK.out _ _ (below_alloc_new _) ⟨_, rfl, Wh.new w_ 24 (lyT.all [k])⟩ trivial
   refine AK.ss rfl rfl ?_ ?_
   ·intro u w_ hJ hA_ hF K hK
    have h56 : BoxT [k] (u 56) w_ := AK.facts_get hF 56 (by simp)
    clear hF
    obtain ⟨b56, h56, hw56⟩ := h56
    have hv9 := hJ.2 _ rfl
    simp only [h56] at hK ⊢
    clear h56
    refine wp_app_few (.tmp 54) (.tmp 56) 22 rfl i0 _ Try.underlying22 hi hz1 hz2 hz3 rfl rfl hv9 b56 1 [k] rfl (by decide) rfl hw56 (by have := HNL.out; have := HNM.out; omega) hJ.1.size ?_
    intro v' w' ho' hk' hb'
    rw [HLQ.out] at ho'
    exact hK.out _ _ ⟨hJ.1.trans hb', fun v hv => by cases hv; exact ho'⟩ hk' trivial
   refine AK.sc (lim := 2) (lo := 2) rfl rfl rfl rfl ?_ ?_
   ·intro k_ u w_ hk_ hl_ hJ hF K hK
    obtain rfl : k_ = 2 := by omega
    have h51 : u 51 = .string g := AK.facts_get hF 51 (by simp)
    clear hF
    have hv9 := hJ.2 _ rfl
    obtain ⟨A9, c9, e9, hr9, -⟩ := hv9.reads
    simp only [h51, e9] at hK ⊢
    clear h51 e9
    go_simp
    refine (HFW.out A9 c9 w_ hr9).mono ?_
    rintro e w6 ⟨rfl, rfl⟩
    exact hK.out _ _ (Below.refl _ _) (rfl) trivial
   refine AK.sc (lim := 2) (lo := 0) rfl rfl rfl rfl ?_ ?_
   ·intro k_ u w_ hk_ hl_ hJ hF K hK
    have h58 : u 58 = .bool false := AK.facts_get hF 58 (by simp)
    clear hF
    simp only [h58] at hK ⊢
    clear h58
    go_simp
    exact hK.out _ _ (Below.refl _ _) (rfl) trivial
   refine AK.sc (lim := 2) (lo := 0) rfl rfl rfl rfl ?_ ?_
   ·intro k_ u w_ hk_ hl_ hJ hF K hK
    have h59 : u 59 = .bool true := AK.facts_get hF 59 (by simp)
    clear hF
    simp only [h59] at hK ⊢
    clear h59
    go_simp
    exact hK.out _ _ (Below.refl _ _) (rfl) trivial
   refine AK.sc (lim := 2) (lo := 0) rfl rfl rfl rfl ?_ ?_
   ·intro k_ u w_ hk_ hl_ hJ hF K hK
    have h60 : u 60 = .bool true := AK.facts_get hF 60 (by simp)
    clear hF
    simp only [h60] at hK ⊢
    clear h60
    go_simp
    exact hK.out _ _ (Below.refl _ _) (rfl) trivial
   refine AK.sc (lim := 2) (lo := 0) rfl rfl rfl rfl ?_ ?_
   ·intro k_ u w_ hk_ hl_ hJ hF K hK
    have h60 : u 60 = .bool true := AK.facts_get hF 60 (by simp)
    clear hF
    simp only [h60] at hK ⊢
    clear h60
    go_simp
    exact hK.out _ _ (Below.refl _ _) (rfl) trivial
   refine AK.sc (lim := 2) (lo := 0) rfl rfl rfl rfl ?_ ?_
   ·intro k_ u w_ hk_ hl_ hJ hF K hK
    have h60 : u 60 = .bool true := AK.facts_get hF 60 (by simp)
    clear hF
    simp only [h60] at hK ⊢
    clear h60
    go_simp
    exact hK.out _ _ (Below.refl _ _) (rfl) trivial
   refine AK.sc (lim := 2) (lo := 0) rfl rfl rfl rfl ?_ ?_
   ·intro k_ u w_ hk_ hl_ hJ hF K hK
    have h60 : u 60 = .bool true := AK.facts_get hF 60 (by simp)
    clear hF
    simp only [h60] at hK ⊢
    clear h60
    go_simp
    exact hK.out _ _ (Below.refl _ _) (rfl) trivial
   refine AK.sc (lim := 2) (lo := 0) rfl rfl rfl rfl ?_ ?_
   ·intro k_ u w_ hk_ hl_ hJ hF K hK
    have h60 : u 60 = .bool true := AK.facts_get hF 60 (by simp)
    have h64 : u 64 = undef := AK.facts_get hF 64 (by simp)
    clear hF
    simp only [h60, h64] at hK ⊢
    clear h60 h64
    go_simp
    exact hK.out _ _ (Below.refl _ _) (rfl) trivial
   exact AK.StepsOk.nil
  ·intro u W9 hJ9 hF
   have h65 : u 65 = .bool true := AK.facts_get hF 65 (by simp [rtcpF0, AK.temps])
   clear hF
   have HBC : Hid (Below w22.heap.size w22 W9) := Lib.hid hJ9.1
   clear hJ9
   simp only [h65]
   go_wp2_with fail
   go_ret
   exact ⟨rfl, by have h9 := HBW.out _ HBC.out; first | exact h9 | (rw [← HS0.out]; exact h9)⟩
 have hn2 : n ≤ 200 := by rw [← HNL.out]; exact fewT_pre (g := g) (M := [k]) (by rw [HLQ.out]; exact HFE.out)
 have HN2 := Lib.hid hn2
 clear hn2
 obtain ⟨V9, hV9⟩ : ∃ V9, rtV g L = V9 := ⟨_, rfl⟩
 have HRV : Hid (∀ W, Below w22.heap.size w22 W → Calls Try.prog 18 #[.string g, .slice A n c] W fun e w' => e = .returned (.bool V9) ∧ Below W.heap.size W w') := Lib.hid (fun W h => by rw [← HNL.out, ← hV9]; exact rvalid16_any g A c L W (HRL.out.up h) (by have := HNL.out; have := HN2.out; omega) HGM.out HOL.out)
 have HVE := Lib.hid hV9
 clear hV9
 refine AK.region_facts (Rp := Below0) (Kp := KpT 1) (rtcpF1 g A n c s0 B2 k true V9) (rhJ w22 L Lq) [[], [], [], [52, 53], [], [55], [54, 56], [51, 57], [58], [59], [60], [60], [61, 62, 60], [63, 60], [60, 64]] [3, 6] [[], [54], [57]] [2, 2, 2, 2, 2, 2, 2, 2, 2, 2, 2, 2, 2, 2, 2] [0, 0, 0, 0, 0, 0, 0, 2, 0, 0, 0, 0, 0, 0, 0] [] (fun u => by simp only [rtcpF1, AK.temps, List.map_cons, List.map_nil, fillL, List.setIfInBounds_toArray, List.set_cons_zero, List.set_cons_succ]; rfl) (by kernel_rfl) (by kernel_rfl) (fun _ _ h => h.1) (fun _ _ h => KpT.of h) (rhJ.st _ _ _) (dc_drew (Below.refl _ _)) ?_ ?_
 ·refine AK.sc (lim := 2) (lo := 0) rfl rfl rfl rfl ?_ ?_
  ·intro k_ u w_ hk_ hl_ hJ hF K hK
   clear hF
   go_simp
   exact hK.out _ _ (Below.refl _ _) (rfl) trivial
  refine AK.sc (lim := 2) (lo := 0) rfl rfl rfl rfl ?_ ?_
  ·intro k_ u w_ hk_ hl_ hJ hF K hK
   clear hF
   go_simp
   have hb9 := rhJ.low hJ
   exact hK.out _ _ (below_alloc_new _) (nilT_new (by rw [← HB2E.out]; exact hb9.size)) trivial
  refine AK.sc (lim := 2) (lo := 0) rfl rfl rfl rfl ?_ ?_
  ·intro k_ u w_ hk_ hl_ hJ hF K hK
   clear hF
   go_simp
   exact hK.out _ _ (Below.refl _ _) (rfl) trivial
  refine AK.ss rfl rfl ?_ ?_
  ·intro u w_ hJ hA_ hF K hK
   have h52 : NilT B2 (u 52) w_ := AK.facts_get hF 52 (by simp)
   have h53 : u 53 = .slice A n c := AK.facts_get hF 53 (by simp)
   clear hF
   simp only [h53] at hK ⊢
   clear h53
   have hb9 := rhJ.low hJ
   refine wp_app_copy (.tmp 52) (.tmp 53) 22 rfl i0 _ Try.underlying22 hi hz1 hz2 hz3 rfl rfl h52 A n c L HNL.out rfl (HRL.out.up hb9) (by have := HNM.out; omega) (by rw [← HB2E.out]; exact hb9.size) ?_
   intro v' w' ho' hb'
   rw [← HB2E.out] at ho'
   exact hK.out _ _ ⟨Below.trans hb9 (hb'.mono hb9.size), fun v hv => by cases hv; exact ho'⟩ (KpT.of hb') trivial
  refine AK.sc (lim := 2) (lo := 0) rfl rfl rfl rfl ?_ ?_
  ·intro k_ u w_ hk_ hl_ hJ hF K hK
   clear hF
   have hb9 := rhJ.low hJ
   refine wp_load_is 24 _ rfl _ rfl (rtVl k) (rate_load (HXB.out.up hb9)) ?_
   exact hK.out _ _ (Below.refl _ _) (rfl) trivial
  refine AK.sc (lim := 2) (lo := 0) rfl rfl rfl rfl ?_ ?_
  ·intro k_ u w_ hk_ hl_ hJ hF K hK
   have h55 : u 55 = rtVl k := AK.facts_get hF 55 (by simp)
   clear hF
   simp only [h55] at hK ⊢
   clear h55
   go_simp
   exact hK.out _ _ (below_alloc_new _) ⟨_, rfl, Wh.new w_ 24 (lyT.all [k])⟩ trivial
  refine AK.ss rfl rfl ?_ ?_
  ·intro u w_ hJ hA_ hF K hK
   have h56 : BoxT [k] (u 56) w_ := AK.facts_get hF 56 (by simp)
   clear hF
   obtain ⟨b56, h56, hw56⟩ := h56
   have hv9 := hJ.2 _ rfl
   simp only [h56] at hK ⊢
   clear h56
   refine wp_app_few (.tmp 54) (.tmp 56) 22 rfl i0 _ Try.underlying22 hi hz1 hz2 hz3 rfl rfl hv9 b56 1 [k] rfl (by decide) rfl hw56 (by have := HNL.out; have := HNM.out; omega) hJ.1.size ?_
   intro v' w' ho' hk' hb'
   rw [HLQ.out] at ho'
   exact hK.out _ _ ⟨hJ.1.trans hb', fun v hv => by cases hv; exact ho'⟩ hk' trivial
  refine AK.sc (lim := 2) (lo := 2) rfl rfl rfl rfl ?_ ?_
  ·intro k_ u w_ hk_ hl_ hJ hF K hK
   obtain rfl : k_ = 2 := by omega
   have h51 : u 51 = .string g := AK.facts_get hF 51 (by simp)
   clear hF
   have hv9 := hJ.2 _ rfl
   obtain ⟨A9, c9, e9, hr9, -⟩ := hv9.reads
   simp only [h51, e9] at hK ⊢
   clear h51 e9
   go_simp
   refine (HFW.out A9 c9 w_ hr9).mono ?_
   rintro e w6 ⟨rfl, rfl⟩
   exact hK.out _ _ (Below.refl _ _) (rfl) trivial
  refine AK.sc (lim := 2) (lo := 0) rfl rfl rfl rfl ?_ ?_
  ·intro k_ u w_ hk_ hl_ hJ hF K hK
   have h58 : u 58 = .bool true := AK.facts_get hF 58 (by simp)
   clear hF
   simp only [h58] at hK ⊢
   clear h58
   go_simp
   exact hK.out _ _ (Below.refl _ _) (rfl) trivial
  refine AK.sc (lim := 2) (lo := 0) rfl rfl rfl rfl ?_ ?_
  ·intro k_ u w_ hk_ hl_ hJ hF K hK
   have h59 : u 59 = .bool false := AK.facts_get hF 59 (by simp)
   clear hF
   simp only [h59] at hK ⊢
   clear h59
   go_simp
   exact hK.out _ _ (Below.refl _ _) (rfl) trivial
  refine AK.sc (lim := 2) (lo := 0) rfl rfl rfl rfl ?_ ?_
  ·intro k_ u w_ hk_ hl_ hJ hF K hK
   have h60 : u 60 = .bool false := AK.facts_get hF 60 (by simp)
   clear hF
   simp only [h60] at hK ⊢
   clear h60
   go_simp
   exact hK.out _ _ (Below.refl _ _) (rfl) trivial
  refine AK.sc (lim := 2) (lo := 0) rfl rfl rfl rfl ?_ ?_
  ·intro k_ u w_ hk_ hl_ hJ hF K hK
   have h60 : u 60 = .bool false := AK.facts_get hF 60 (by simp)
   clear hF
   simp only [h60] at hK ⊢
   clear h60
   go_simp
   exact hK.out _ _ (Below.refl _ _) (rfl) trivial
  refine AK.sc (lim := 2) (lo := 0) rfl rfl rfl rfl ?_ ?_
  ·intro k_ u w_ hk_ hl_ hJ hF K hK
   have h61 : u 61 = .string g := AK.facts_get hF 61 (by simp)
   have h62 : u 62 = .slice A n c := AK.facts_get hF 62 (by simp)
   have h60 : u 60 = .bool false := AK.facts_get hF 60 (by simp)
   clear hF
   simp only [h61, h62, h60] at hK ⊢
   clear h61 h62 h60
   have hb9 := rhJ.low hJ
   go_simp
   refine (HRV.out _ hb9).mono ?_
   rintro e w6 ⟨rfl, hb6⟩
   exact hK.out _ _ hb6 (rfl) trivial
  refine AK.sc (lim := 2) (lo := 0) rfl rfl rfl rfl ?_ ?_
  ·intro k_ u w_ hk_ hl_ hJ hF K hK
   have h63 : u 63 = .bool V9 := AK.facts_get hF 63 (by simp)
   have h60 : u 60 = .bool false := AK.facts_get hF 60 (by simp)
   clear hF
   simp only [h63, h60] at hK ⊢
   clear h63 h60
   go_simp
   exact hK.out _ _ (Below.refl _ _) (rfl) trivial
  refine AK.sc (lim := 2) (lo := 0) rfl rfl rfl rfl ?_ ?_
  ·intro k_ u w_ hk_ hl_ hJ hF K hK
   have h60 : u 60 = .bool false := AK.facts_get hF 60 (by simp)
   have h64 : u 64 = .bool (!V9) := AK.facts_get hF 64 (by simp)
   clear hF
   simp only [h60, h64] at hK ⊢
   clear h60 h64
   go_simp
   exact hK.out _ _ (Below.refl _ _) (rfl) trivial
  exact AK.StepsOk.nil
 ·intro u W9 hJ9 hF
  have h65 : u 65 = .bool (!V9) := AK.facts_get hF 65 (by simp [rtcpF1, AK.temps])
  clear hF
  have HBC : Hid (Below w22.heap.size w22 W9) := Lib.hid hJ9.1
  clear hJ9
  simp only [h65]
  cases V9
  ·go_wp2_with fail
   go_ret
   exact ⟨rfl, by have h9 := HBW.out _ HBC.out; first | exact h9 | (rw [← HS0.out]; exact h9)⟩
  obtain ⟨i0, hi, hz1, hz2, hz3⟩ := info_parts infoT
  obtain ⟨s3, hs3⟩ : ∃ s3, W9.heap.size = s3 := ⟨_, rfl⟩
  have HS3 := Lib.hid hs3
  have HE : Hid (OwnR lyT 24 (W9.alloc (.cells #[] 24)) s3 (.slice (some ⟨s3, 0, none⟩) 0 0) []) := Lib.hid (by rw [← hs3]; exact OwnR.empty (Nat.le_refl _))
  have HBE0 : Hid (Below W9.heap.size W9 (W9.alloc (.cells #[] 24))) := Lib.hid (below_alloc_new _)
  have HZ2 : Hid (RowAt lyT (W9.alloc (.cells #[] 24)) A L) := Lib.hid ((HRL.out.up HBC.out).up HBE0.out)
  have HS3L : Hid (s3 ≤ (W9.alloc (.cells #[] 24)).heap.size) := Lib.hid (by rw [← hs3]; simp)
  go_upto_region 10 with (at_builtin; refine wpList_app_row (R := lyT) (v := .slice (some ⟨s3, 0, none⟩) 0 0) rfl (.tmp 66) (.tmp 67) 22 rfl i0 _ 40 Try.underlying22 hi hz1 hz2 hz3 (by omega) rfl rfl HE.out A n c L HNL.out rfl HZ2.out (by have := HN2.out; simp; omega) HS3L.out ?_; intro v5 w5 ho5 hg5 hn5)
  rw [List.nil_append] at ho5
  have HB5 : Hid (Below s3 W9 w5) := Lib.hid (((below_alloc_new _).mono (Nat.le_of_eq HS3.out.symm)).trans ((Below.refl _ _).grown hg5.out HS3L.out (fun q hq => by cases hq; exact Nat.le_refl _)))
  obtain ⟨A5, c5, e5, hr5, -⟩ := ho5.out.reads
  have HOWN : Hid (OwnR lyT 24 w5 s3 v5 L) := ho5
  have HS35 : Hid (s3 ≤ w5.heap.size) := Lib.hid (Nat.le_trans (Nat.le_of_eq HS3.out.symm) HB5.out.size)
  have HS2 : Hid (w22.heap.size ≤ s3) := Lib.hid (Nat.le_trans HBC.out.size (Nat.le_of_eq HS3.out))
  have HA5 : Hid (∀ g, (Value.slice A5 L.length c5).ownBlock = some g → s3 ≤ g ∧ g < w5.heap.size) := Lib.hid (fun g h => by rw [← e5] at h; exact ho5.out.lt h)
  have hbc5 := Lib.hid (HBC.out.trans (HB5.out.mono (by rw [← HS3.out]; exact HBC.out.size)))
  clear HBC hg5 hn5 ho5 HE HBE0 HZ2 HS3L hr5
  have HBC := hbc5
  clear hbc5
  subst e5
  obtain ⟨R, hR⟩ : ∃ R, rtL L = R := ⟨_, rfl⟩
  have HRN : Hid (R.length ≤ 200) := Lib.hid (by rw [← hR]; have h1 := rtL_len L; have := HNL.out; have := HN2.out; omega)
  have HOF : Hid (∀ W, OwnR lyT 24 W s3 (.slice A5 L.length c5) L → Calls Try.prog 24 #[.string g, .slice A5 L.length c5] W fun e w' => (∃ (b : Nat) (j : TD), e = .returned (.tuple #[.pointer (some ⟨b, 0, none⟩), .int .i64 0]) ∧ TP w' W.heap.size (.pointer (some ⟨b, 0, none⟩)) j L ∧ j.g = g) ∧ Below W.heap.size W w') := Lib.hid (fun W h => by
   obtain ⟨A4, c4, e4, h4, -⟩ := h.reads
   cases e4
   exact (of16_any g A5 c5 L W h4 (by have := HNL.out; have := HN2.out; omega) HOL.out).mono fun e w' h1 => ⟨by have h2 := h1.1; unfold OfT at h2; rw [if_pos HVE.out] at h2; exact h2, h1.2⟩)
  have HLI : Hid (∀ P j B W, TP W B P j L → Calls Try.prog 28 #[P] W fun e w' => (∃ A4 c4, e = .returned (.slice A4 R.length c4) ∧ OwnR lyT 24 w' W.heap.size (.slice A4 R.length c4) R) ∧ Below W.heap.size W w') := Lib.hid (fun P j B W h => by
   have h2 := listP_any h (by have := HNL.out; have := HN2.out; omega)
   rw [hR] at h2
   exact h2.mono fun e w' h1 => ⟨h1.1, h1.2⟩)
  have HHI : Hid (∀ P j B W, TP W B P j L → Calls Try.prog 26 #[P] W fun e w' => (∃ A4 c4, e = .returned (.slice A4 L.length c4) ∧ OwnR lyT 24 w' W.heap.size (.slice A4 L.length c4) L) ∧ Below W.heap.size W w') := Lib.hid (fun P j B W h => (hisP_any h (by have := HNL.out; have := HN2.out; omega)).mono fun e w' h1 => ⟨h1.1, h1.2⟩)
  have HCL : Hid (∀ P j B W, TP W B P j L → Calls Try.prog 32 #[P] W fun e w' => (∃ (b : Nat) (x : TD), e = .returned (.pointer (some ⟨b, 0, none⟩)) ∧ TP w' W.heap.size (.pointer (some ⟨b, 0, none⟩)) x L ∧ x.g = j.g) ∧ Below W.heap.size W w') := Lib.hid (fun P j B W h => by
   have h1 := clone16_any j L B W h.2 (by have := HNL.out; have := HN2.out; omega)
   rw [h.1] at h1
   exact h1)
  have HSR : Hid (∀ A4 c4 A6 c6 W, RowAt lyT W A4 R → RowAt lyT W A6 R → Calls Try.prog 25 #[.slice A4 R.length c4, .slice A6 R.length c6] W fun e w' => e = .returned (.bool true) ∧ Below W.heap.size W w') := Lib.hid (fun A4 c4 A6 c6 W h h2 => by
   have h1 := rsame16_any A4 A6 c4 c6 R R W h h2 (by have := HRN.out; omega) (by have := HRN.out; omega)
   rw [decide_eq_true rfl] at h1
   exact h1)
  have HSH : Hid (∀ A4 c4 A6 c6 W, RowAt lyT W A4 L → RowAt lyT W A6 L → Calls Try.prog 25 #[.slice A4 L.length c4, .slice A6 L.length c6] W fun e w' => e = .returned (.bool true) ∧ Below W.heap.size W w') := Lib.hid (fun A4 c4 A6 c6 W h h2 => by
   have h1 := rsame16_any A4 A6 c4 c6 L L W h h2 (by have := HNL.out; have := HN2.out; omega) (by have := HNL.out; have := HN2.out; omega)
   rw [decide_eq_true rfl] at h1
   exact h1)
  clear hR hs3
  go_upto_region 14 with (first
   | (clear HM1; go_at_call 24; refine (HOF.out _ HOWN.out).mono ?_; rintro e w6 ⟨⟨b6, j, rfl, hj, hg⟩, hb⟩; have HT := Lib.hid hj; have HZ56 := Lib.hid hb.size; clear hj hg; have hw_ := Lib.hid (HOWN.out.up hb); clear HOWN; have HOWN := hw_; clear hw_; have hB3 := Lib.hid (HBC.out.trans (hb.mono HBC.out.size)); clear HBC; have HBC := hB3; clear hB3 hb)
   | (clear HM2; go_at_call 28; refine (HLI.out _ _ _ _ HT.out).mono ?_; rintro e w7 ⟨⟨A7, c7, rfl, hr⟩, hb⟩; have HBE := Lib.hid hr; have HZ67 := Lib.hid hb.size; have HA7 : Hid (∀ g, (Value.slice A7 R.length c7).ownBlock = some g → w6.heap.size ≤ g ∧ g < w7.heap.size) := Lib.hid (fun g h => hr.lt h); clear hr; have hw_ := Lib.hid (HOWN.out.up hb); clear HOWN; have HOWN := hw_; clear hw_; have ht_ := Lib.hid (HT.out.up hb); clear HT; have HT := ht_; clear ht_; have hB3 := Lib.hid (HBC.out.trans (hb.mono HBC.out.size)); clear HBC; have HBC := hB3; clear hB3 hb)
   | (clear HM3; go_at_call 26; refine (HHI.out _ _ _ _ HT.out).mono ?_; rintro e w8 ⟨⟨A8, c8, rfl, hr⟩, hb⟩; have HHE := Lib.hid hr; have HZ78 := Lib.hid hb.size; have HA8 : Hid (∀ g, (Value.slice A8 L.length c8).ownBlock = some g → w7.heap.size ≤ g ∧ g < w8.heap.size) := Lib.hid (fun g h => hr.lt h); have ha_ := Lib.hid (HBE.out.up hb); clear hr HBE; have HBE := ha_; clear ha_; have hw_ := Lib.hid (HOWN.out.up hb); clear HOWN; have HOWN := hw_; clear hw_; have ht_ := Lib.hid (HT.out.up hb); clear HT; have HT := ht_; clear ht_; have hB3 := Lib.hid (HBC.out.trans (hb.mono HBC.out.size)); clear HBC; have HBC := hB3; clear hB3 hb))
  have HB8 := Lib.hid HBC.out.size
  obtain ⟨wc, hwc⟩ : ∃ wc, w8 = wc := ⟨_, rfl⟩
  subst hwc
  have HBE8 := HBE
  have HHE8 := HHE
  have HT8 := HT
  have HOWN8 := HOWN
  have HBC8 := HBC
  have HBC' : Hid True := Lib.hid trivial
  have HB814 : Hid (Below w8.heap.size w8 w8) := Lib.hid (Below.refl _ _)
  have HSTC : Hid (∀ P x B W, TP W B P x L → B ≤ W.heap.size → Calls Try.prog 22 #[P, rtVl k] W fun e w' => (∃ E, e = .returned (.int .i64 E)) ∧ ∃ y, GoP W w' B P x L y (adR x.g L k)) := Lib.hid (fun P x B W h hB => (setP_any k h hB HOK.out.1 (by have := HNL.out; have := HN2.out; omega) _ rfl).mono fun e w' h1 => ⟨⟨_, h1.1⟩, h1.2⟩)
  go_upto_region 17 with (first
   | (clear HM4; go_at_call 32; refine (HCL.out _ _ _ _ HT.out).mono ?_; rintro e w10 ⟨⟨b10, x, rfl, hj, hg⟩, hb⟩; have HC := Lib.hid hj; have HBS := Lib.hid hb.size; clear hj hg; have h8_ := Lib.hid (HB814.out.trans (hb.mono HB814.out.size)); clear HB814; have HB814 := h8_; clear h8_; have hw_ := Lib.hid (HOWN.out.up hb); clear HOWN; have HOWN := hw_; clear hw_; have ha_ := Lib.hid (HBE.out.up hb); have hh_ := Lib.hid (HHE.out.up hb); clear HBE HHE; have HBE := ha_; have HHE := hh_; clear ha_ hh_; have ht_ := Lib.hid (HT.out.up hb); clear HT; have HT := ht_; clear ht_; have hB3 := Lib.hid (HBC.out.trans (hb.mono HBC.out.size)); clear HBC; have HBC := hB3; clear hB3 hb)
   | (clear HM5; go_at_call 28; refine (HLI.out _ _ _ _ HC.out).mono ?_; rintro e w11 ⟨⟨A11, c11, rfl, hr⟩, hb⟩; have HR11 := Lib.hid (rowR hr); clear hr; have h8_ := Lib.hid (HB814.out.trans (hb.mono HB814.out.size)); clear HB814; have HB814 := h8_; clear h8_; have hs_ := Lib.hid (Nat.le_trans HBS.out hb.size); clear HBS; have HBS := hs_; clear hs_; have hw_ := Lib.hid (HOWN.out.up hb); clear HOWN; have HOWN := hw_; clear hw_; have ha_ := Lib.hid (HBE.out.up hb); have hh_ := Lib.hid (HHE.out.up hb); clear HBE HHE; have HBE := ha_; have HHE := hh_; clear ha_ hh_; have ht_ := Lib.hid (HT.out.up hb); clear HT; have HT := ht_; clear ht_; have hc_ := Lib.hid (HC.out.up hb); clear HC; have HC := hc_; clear hc_; have hB3 := Lib.hid (HBC.out.trans (hb.mono HBC.out.size)); clear HBC; have HBC := hB3; clear hB3 hb)
   | (clear HM6; go_at_call 25; refine (HSR.out _ _ _ _ _ HR11.out (rowR HBE.out)).mono ?_; rintro e w12 ⟨rfl, hb⟩; have h8_ := Lib.hid (HB814.out.trans (hb.mono HB814.out.size)); clear HB814; have HB814 := h8_; clear h8_; have hs_ := Lib.hid (Nat.le_trans HBS.out hb.size); clear HBS; have HBS := hs_; clear hs_; have hw_ := Lib.hid (HOWN.out.up hb); clear HOWN; have HOWN := hw_; clear hw_; have ha_ := Lib.hid (HBE.out.up hb); have hh_ := Lib.hid (HHE.out.up hb); clear HBE HHE; have HBE := ha_; have HHE := hh_; clear ha_ hh_; have ht_ := Lib.hid (HT.out.up hb); clear HT; have HT := ht_; clear ht_; have hc_ := Lib.hid (HC.out.up hb); clear HC; have HC := hc_; clear hc_; have hB3 := Lib.hid (HBC.out.trans (hb.mono HBC.out.size)); clear HBC; have HBC := hB3; clear hB3 hb)
   | (clear HM7; go_at_call 26; refine (HHI.out _ _ _ _ HC.out).mono ?_; rintro e w13 ⟨⟨A13, c13, rfl, hr⟩, hb⟩; have HR13 := Lib.hid (rowR hr); clear hr; have h8_ := Lib.hid (HB814.out.trans (hb.mono HB814.out.size)); clear HB814; have HB814 := h8_; clear h8_; have hs_ := Lib.hid (Nat.le_trans HBS.out hb.size); clear HBS; have HBS := hs_; clear hs_; have hw_ := Lib.hid (HOWN.out.up hb); clear HOWN; have HOWN := hw_; clear hw_; have ha_ := Lib.hid (HBE.out.up hb); have hh_ := Lib.hid (HHE.out.up hb); clear HBE HHE; have HBE := ha_; have HHE := hh_; clear ha_ hh_; have ht_ := Lib.hid (HT.out.up hb); clear HT; have HT := ht_; clear ht_; have hc_ := Lib.hid (HC.out.up hb); clear HC; have HC := hc_; clear hc_; have hB3 := Lib.hid (HBC.out.trans (hb.mono HBC.out.size)); clear HBC; have HBC := hB3; clear hB3 hb)
   | (clear HM8; go_at_call 25; refine (HSH.out _ _ _ _ _ HR13.out (rowR HHE.out)).mono ?_; rintro e w14 ⟨rfl, hb⟩; have h8_ := Lib.hid (HB814.out.trans (hb.mono HB814.out.size)); clear HB814; have HB814 := h8_; clear h8_; have hs_ := Lib.hid (Nat.le_trans HBS.out hb.size); clear HBS; have HBS := hs_; clear hs_; have hw_ := Lib.hid (HOWN.out.up hb); clear HOWN; have HOWN := hw_; clear hw_; have ha_ := Lib.hid (HBE.out.up hb); have hh_ := Lib.hid (HHE.out.up hb); clear HBE HHE; have HBE := ha_; have HHE := hh_; clear ha_ hh_; have ht_ := Lib.hid (HT.out.up hb); clear HT; have HT := ht_; clear ht_; have hc_ := Lib.hid (HC.out.up hb); clear HC; have HC := hc_; clear hc_; have hB3 := Lib.hid (HBC.out.trans (hb.mono HBC.out.size)); clear HBC; have HBC := hB3; clear hB3 hb))
  obtain ⟨wd, hwd⟩ : ∃ wd, w14 = wd := ⟨_, rfl⟩
  subst hwd
  have HBX14 := Lib.hid (HXB.out.up HBC.out)
  go_upto_region 18 with (first
   | (refine wpList_load_is rfl 24 _ rfl (.pointer (some ⟨s0, 0, none⟩)) rfl (rtVl k) (rate_load HBX14.out) ?_)
   | (clear HM9; go_at_call 22; refine (HSTC.out _ _ _ _ HC.out HBS.out).mono ?_; rintro e w15 ⟨⟨E15, rfl⟩, y15, hm⟩; have HGO := Lib.hid hm; clear hm))
  have HOB : Hid (Below w8.heap.size w14 w15) := Lib.hid (HGO.out.below HC.out HBS.out)
  have HT15 : Hid (TP w15 w5.heap.size (.pointer (some ⟨b6, 0, none⟩)) j L) := Lib.hid (HT.out.only HGO.out.mv.only (fun q h1 h2 => by
   have h3 := (HC.out.2.own_lt h2).1
   have h4 := (HT8.out.2.own_lt h1).2
   omega))
  have HOWN15 : Hid (OwnR lyT 24 w15 s3 (.slice A5 L.length c5) L) := Lib.hid (HOWN8.out.up ((HB814.out).trans HOB.out))
  have HBE15 := Lib.hid (HBE8.out.up (HB814.out.trans HOB.out))
  have HHE15 := Lib.hid (HHE8.out.up (HB814.out.trans HOB.out))
  have hbc15 := Lib.hid (HBC8.out.trans ((HB814.out.trans HOB.out).mono HBC8.out.size))
  clear HBC HT HOWN HBE HHE
  have HBC := hbc15
  have HT := HT15
  have HOWN := HOWN15
  have HBE := HBE15
  have HHE := HHE15
  clear hbc15 HT15 HOWN15 HBE15 HHE15
  have HZ15 : Hid (w8.heap.size ≤ w15.heap.size) := Lib.hid (HB814.out.trans HOB.out).size
  have HT15 : Hid (TP w15 w5.heap.size (.pointer (some ⟨b6, 0, none⟩)) j L) := HT
  clear HOB HGO HC HBX14 HB814 HBC8 HT8 HBE8 HHE8 HOWN8 HR11 HR13 HBS
  go_upto_region 19 with (first
   | (clear HM10; go_at_call 28; refine (HLI.out _ _ _ _ HT.out).mono ?_; rintro e w16 ⟨⟨A16, c16, rfl, hr⟩, hb⟩; have HO16 := Lib.hid hr; have HA16 : Hid (∀ g, (Value.slice A16 R.length c16).ownBlock = some g → w15.heap.size ≤ g ∧ g < w16.heap.size) := Lib.hid (fun g h => hr.lt h); have HZ16 := Lib.hid hb.size; clear hr; have hw_ := Lib.hid (HOWN.out.up hb); clear HOWN; have HOWN := hw_; clear hw_; have ha_ := Lib.hid (HBE.out.up hb); have hh_ := Lib.hid (HHE.out.up hb); clear HBE HHE; have HBE := ha_; have HHE := hh_; clear ha_ hh_; have ht_ := Lib.hid (HT.out.up hb); clear HT; have HT := ht_; clear ht_; have hB3 := Lib.hid (HBC.out.trans (hb.mono HBC.out.size)); clear HBC; have HBC := hB3; clear hB3 hb)
   | (clear HM11; go_at_call 26; refine (HHI.out _ _ _ _ HT.out).mono ?_; rintro e w17 ⟨⟨A17, c17, rfl, hr⟩, hb⟩; have HO17 := Lib.hid hr; have HA17 : Hid (∀ g, (Value.slice A17 L.length c17).ownBlock = some g → w16.heap.size ≤ g ∧ g < w17.heap.size) := Lib.hid (fun g h => hr.lt h); have HZ17 := Lib.hid hb.size; have h16_ := Lib.hid (HO16.out.up hb); clear hr HO16; have HO16 := h16_; clear h16_; have hw_ := Lib.hid (HOWN.out.up hb); clear HOWN; have HOWN := hw_; clear hw_; have ha_ := Lib.hid (HBE.out.up hb); have hh_ := Lib.hid (HHE.out.up hb); clear HBE HHE; have HBE := ha_; have HHE := hh_; clear ha_ hh_; have ht_ := Lib.hid (HT.out.up hb); clear HT; have HT := ht_; clear ht_; have hB3 := Lib.hid (HBC.out.trans (hb.mono HBC.out.size)); clear HBC; have HBC := hB3; clear hB3 hb))
  obtain ⟨p8, hp8⟩ : ∃ p, w17.heap.size = p := ⟨_, rfl⟩
  have HB18 : Hid (Below w17.heap.size w17 (w17.alloc (.cells #[.slice A5 L.length c5, .slice A16 R.length c16, .slice A17 L.length c17] 22))) := Lib.hid (below_alloc_new _)
  have HW3 : Hid (Wh 22 (w17.alloc (.cells #[.slice A5 L.length c5, .slice A16 R.length c16, .slice A17 L.length c17] 22)) p8 [.slice A5 L.length c5, .slice A16 R.length c16, .slice A17 L.length c17]) := Lib.hid (by rw [← hp8]; exact Wh.new w17 _ _)
  obtain ⟨w18, hw18⟩ : ∃ W, (w17.alloc (.cells #[.slice A5 L.length c5, .slice A16 R.length c16, .slice A17 L.length c17] 22)) = W := ⟨_, rfl⟩
  rw [hw18] at HB18 HW3
  simp only [hw18, hp8]
  have HP8 := Lib.hid hp8
  obtain ⟨V, hV0, hV1, hV2⟩ : ∃ V : Nat → Value, V 0 = .slice A5 L.length c5 ∧ V 1 = .slice A16 R.length c16 ∧ V 2 = .slice A17 L.length c17 := ⟨fun i => if i = 0 then .slice A5 L.length c5 else if i = 1 then .slice A16 R.length c16 else .slice A17 L.length c17, rfl, rfl, rfl⟩
  obtain ⟨N, hN0, hN1, hN2⟩ : ∃ N : Nat → Nat, N 0 = L.length ∧ N 1 = R.length ∧ N 2 = L.length := ⟨fun i => if i = 1 then R.length else L.length, rfl, rfl, rfl⟩
  have HTRI : Hid (Tri16 w18 V N s3) := Lib.hid (by
   have h5 := HOWN.out.up HB18.out
   have h6 := HO16.out.up HB18.out
   have h7 := HO17.out.up HB18.out
   have z0 := HS35.out
   have z3 := HZ15.out
   have z4 := HZ56.out
   have z5 := HZ67.out
   have z6 := HZ78.out
   have z7 := HZ16.out
   refine ⟨fun i hi => ?_, fun i i2 hi hi2 hne q h1 h2 => ?_⟩
   ·match i, hi with
    | 0, _ => exact ⟨L, hN0.symm, by rw [hV0]; exact h5⟩
    | 1, _ => exact ⟨R, hN1.symm, by rw [hV1]; exact h6.low (by omega)⟩
    | 2, _ => exact ⟨L, hN2.symm, by rw [hV2]; exact h7.low (by omega)⟩
   ·match i, hi, i2, hi2 with
    | 0, _, 0, _ => exact hne rfl
    | 1, _, 1, _ => exact hne rfl
    | 2, _, 2, _ => exact hne rfl
    | 0, _, 1, _ => rw [hV0] at h1; rw [hV1] at h2; have := HA5.out q h1; have := HA16.out q h2; omega
    | 0, _, 2, _ => rw [hV0] at h1; rw [hV2] at h2; have := HA5.out q h1; have := HA17.out q h2; omega
    | 1, _, 2, _ => rw [hV1] at h1; rw [hV2] at h2; have := HA16.out q h1; have := HA17.out q h2; omega
    | 1, _, 0, _ => rw [hV1] at h1; rw [hV0] at h2; have := HA16.out q h1; have := HA5.out q h2; omega
    | 2, _, 0, _ => rw [hV2] at h1; rw [hV0] at h2; have := HA17.out q h1; have := HA5.out q h2; omega
    | 2, _, 1, _ => rw [hV2] at h1; rw [hV1] at h2; have := HA17.out q h1; have := HA16.out q h2; omega)
  have HVF : Hid (∀ i, i < 3 → ∃ A c, V i = .slice A (N i) c) := Lib.hid (fun i hi => by
   match i, hi with
   | 0, _ => exact ⟨_, _, by rw [hV0, hN0]⟩
   | 1, _ => exact ⟨_, _, by rw [hV1, hN1]⟩
   | 2, _ => exact ⟨_, _, by rw [hV2, hN2]⟩)
  have HNF : Hid (∀ i, i < 3 → N i ≤ 200) := Lib.hid (fun i hi => by
   have h1 := HRN.out
   have h2 := HNL.out
   have h3 := HN2.out
   match i, hi with
   | 0, _ => omega
   | 1, _ => omega
   | 2, _ => omega)
  have HVW : Hid (∀ i, i < 3 → w18.cell? ⟨p8, i, none⟩ = some (V i)) := Lib.hid (fun i hi => by
   match i, hi with
   | 0, _ => rw [hV0]; exact HW3.out.at 0 _ rfl
   | 1, _ => rw [hV1]; exact HW3.out.at 1 _ rfl
   | 2, _ => rw [hV2]; exact HW3.out.at 2 _ rfl)
  have HTS : Hid (∀ g, triS V g → (s3 ≤ g ∧ g < w5.heap.size) ∨ (w15.heap.size ≤ g ∧ g < w17.heap.size)) := Lib.hid (by
   have z1 := HZ16.out
   have z2 := HZ17.out
   rintro g ⟨i, hi, hg⟩
   match i, hi with
   | 0, _ => rw [hV0] at hg; exact .inl (HA5.out g hg)
   | 1, _ => rw [hV1] at hg; have := HA16.out g hg; omega
   | 2, _ => rw [hV2] at hg; have := HA17.out g hg; omega)
  have HZ18 := Lib.hid HB18.out.size
  have HT18 : Hid (TP w18 w5.heap.size (.pointer (some ⟨b6, 0, none⟩)) j L) := Lib.hid (HT.out.up HB18.out)
  have HBE18 := Lib.hid (HBE.out.up HB18.out)
  have HHE18 := Lib.hid (HHE.out.up HB18.out)
  have HBC18 := Lib.hid (HBC.out.trans (HB18.out.mono HBC.out.size))
  have HONL : Hid (Only (triS V) w18 w18) := Lib.hid (Only.refl _)
  clear hp8 hw18 hV0 hV1 hV2 hN0 hN1 hN2 HB18 HW3 HOWN HO16 HO17
  go_loopg [113] 3 (fun kx s113 wr => ∃ i : Nat, s113 = .int .i64 (i : Int) ∧ i ≤ 3 ∧ 3 - i ≤ kx ∧ Hid (Tri16 wr V N s3) ∧ Hid (Only (triS V) w18 wr))
  case atStart => exact ⟨0, rfl, by omega, by omega, HTRI, HONL⟩
  case round =>
   clear HTRI HONL
   obtain ⟨i, rfl, hi3, hkx, HTRI, HONL⟩ := hrel
   by_cases hlt : i < 3
   ·have hltz : (i : Int) < 3 := by omega
    obtain ⟨A0, c0, hVi⟩ := HVF.out i hlt
    have hm6 := HNF.out i hlt
    have hp0 : ¬ triS V p8 := fun h => by
     have h1 := HTS.out p8 h
     have h2 := HP8.out
     have h3 := HZ15.out
     have h4 := HZ56.out
     have h5 := HZ67.out
     have h6 := HZ78.out
     have h7 := HZ16.out
     have h8 := HZ17.out
     omega
    have c1 : wr.cell? ⟨p8, i, none⟩ = some (V i) := by
     have h1 := HVW.out i hlt
     rw [HONL.out.cell (b := p8) (World.block_lt_of_cell? w18 ⟨p8, i, none⟩ h1) hp0]
     exact h1
    obtain ⟨m, hm⟩ : ∃ m, N i = m := ⟨_, rfl⟩
    rw [hm] at hVi hm6
    rw [hVi] at c1
    have HMI := Lib.hid hm
    have HVI := Lib.hid hVi
    clear hm hVi hp0
    go_wp2_with fail
    clear c1
    go_loopg [119] m (fun kx s119 wr2 => ∃ k : Nat, s119 = .int .i64 (k : Int) ∧ k ≤ m ∧ m - k ≤ kx ∧ Hid (Tri16 wr2 V N s3) ∧ Hid (Only (triS V) w18 wr2))
    case atStart => exact ⟨0, rfl, by omega, by omega, HTRI, HONL⟩
    case round =>
     clear HTRI HONL
     rename World => wr2
     obtain ⟨k, rfl, hk, hkx2, HTRI, HONL⟩ := hrel
     by_cases hlt2 : k < m
     ·have hltz2 : (k : Int) < (m : Int) := by omega
      obtain ⟨M, hM, hown⟩ := HTRI.out.row i hlt
      have hV := HVI.out
      rw [hV] at hown
      obtain ⟨A1, c1, e1, -, hA1⟩ := hown.reads
      cases A0 with
      | none => have h1 := hown.none_nil; have := HMI.out; rw [h1.1] at hM; simp at hM; omega
      | some a0 =>
       obtain ⟨g0, o0, x0⟩ := a0
       have hO0 : o0 = 0 ∧ x0 = none := by
        rcases hown.2 with ⟨h9, _⟩ | ⟨g', cap, cur, h9, _⟩
        ·cases h9
        ·cases h9; exact ⟨rfl, rfl⟩
       obtain ⟨rfl, rfl⟩ := hO0
       obtain ⟨⟨v0, cv⟩, fv, -, -⟩ := own_cell16 (k := k) hown (by rw [hM, HMI.out]; exact hlt2)
       have HT2 : Hid (Tri16 (wr2.setCell ⟨g0, k * 4 + 3, none⟩ (.int .i64 7)) V N s3) := Lib.hid (HTRI.out.put hlt hV (by rw [HMI.out]; exact hlt2))
       have HO2 : Hid (Only (triS V) w18 (wr2.setCell ⟨g0, k * 4 + 3, none⟩ (.int .i64 7))) := Lib.hid (HONL.out.trans (Only.setCell wr2 (a := ⟨g0, k * 4 + 3, none⟩) ⟨i, hlt, by rw [hV]; rfl⟩ _))
       clear HTRI HONL hown hM hA1 e1 hV
       go_wp2_with fail
       go_roundg (m - (k + 1))
       case measure => omega
       case rel => exact ⟨k + 1, by go_num, by omega, by omega, HT2, HO2⟩
     ·obtain rfl : k = m := by omega
      have hltz2 : ¬ (k : Int) < (k : Int) := by omega
      go_wp2_with fail
      go_roundg (3 - (i + 1))
      case measure => omega
      case rel => exact ⟨i + 1, by go_num, by omega, by omega, HTRI, HONL⟩
   ·obtain rfl : i = 3 := by omega
    have hltz : ¬ ((3 : Nat) : Int) < 3 := by omega
    have z0 := HS35.out
    have z3 := HZ15.out
    have z4 := HZ56.out
    have z5 := HZ67.out
    have z6 := HZ78.out
    have z7 := HZ16.out
    have z8 := HZ17.out
    have z9 := HS2.out
    have zA : w17.heap.size ≤ w18.heap.size := HZ18.out
    have hbE := Lib.hid (HBC18.out.trans (HONL.out.below (fun q hq => by have h1 := HTS.out q hq; omega) HBC18.out.size))
    have hTE := Lib.hid (HT18.out.only HONL.out (fun q h1 h2 => by
     have h3 := HT15.out.2.own_lt h1
     have h4 := HTS.out q h2
     omega))
    have hBEE := Lib.hid (HBE18.out.blk fun q hq => by
     have h1 := HA7.out q hq
     exact HONL.out.blk q (by omega) (fun h2 => by have h4 := HTS.out q h2; omega))
    have hHEE := Lib.hid (HHE18.out.blk fun q hq => by
     have h1 := HA8.out q hq
     exact HONL.out.blk q (by omega) (fun h2 => by have h4 := HTS.out q h2; omega))
    clear HBC HT HBE HHE HTRI HONL HBC18 HT18 HT15 HBE18 HHE18 z0 z3 z4 z5 z6 z7 z8 z9 zA
    have HBC := hbE
    have HT := hTE
    have HBE := hBEE
    have HHE := hHEE
    clear hbE hTE hBEE hHEE
    go_wp2_with (first
     | (clear HM12; go_at_call 28; refine (HLI.out _ _ _ _ HT.out).mono ?_; rintro e w31 ⟨⟨A31, c31, rfl, hr⟩, hb⟩; have HR31 := Lib.hid (rowR hr); clear hr; have ha_ := Lib.hid (HBE.out.up hb); have hh_ := Lib.hid (HHE.out.up hb); clear HBE HHE; have HBE := ha_; have HHE := hh_; clear ha_ hh_; have ht_ := Lib.hid (HT.out.up hb); clear HT; have HT := ht_; clear ht_; have hB3 := Lib.hid (HBC.out.trans (hb.mono HBC.out.size)); clear HBC; have HBC := hB3; clear hB3 hb)
     | (clear HM13; go_at_call 25; refine (HSR.out _ _ _ _ _ HR31.out (rowR HBE.out)).mono ?_; rintro e w32 ⟨rfl, hb⟩; have ha_ := Lib.hid (HBE.out.up hb); have hh_ := Lib.hid (HHE.out.up hb); clear HBE HHE; have HBE := ha_; have HHE := hh_; clear ha_ hh_; have ht_ := Lib.hid (HT.out.up hb); clear HT; have HT := ht_; clear ht_; have hB3 := Lib.hid (HBC.out.trans (hb.mono HBC.out.size)); clear HBC; have HBC := hB3; clear hB3 hb)
     | (clear HM14; go_at_call 26; refine (HHI.out _ _ _ _ HT.out).mono ?_; rintro e w33 ⟨⟨A33, c33, rfl, hr⟩, hb⟩; have HR33 := Lib.hid (rowR hr); clear hr; have ha_ := Lib.hid (HBE.out.up hb); have hh_ := Lib.hid (HHE.out.up hb); clear HBE HHE; have HBE := ha_; have HHE := hh_; clear ha_ hh_; have ht_ := Lib.hid (HT.out.up hb); clear HT; have HT := ht_; clear ht_; have hB3 := Lib.hid (HBC.out.trans (hb.mono HBC.out.size)); clear HBC; have HBC := hB3; clear hB3 hb)
     | (clear HM15; go_at_call 25; refine (HSH.out _ _ _ _ _ HR33.out (rowR HHE.out)).mono ?_; rintro e w34 ⟨rfl, hb⟩; have ha_ := Lib.hid (HBE.out.up hb); have hh_ := Lib.hid (HHE.out.up hb); clear HBE HHE; have HBE := ha_; have HHE := hh_; clear ha_ hh_; have ht_ := Lib.hid (HT.out.up hb); clear HT; have HT := ht_; clear ht_; have hB3 := Lib.hid (HBC.out.trans (hb.mono HBC.out.size)); clear HBC; have HBC := hB3; clear hB3 hb))
    go_ret
    exact ⟨rfl, by have h9 := HBW.out _ HBC.out; first | exact h9 | (rw [← HS0.out]; exact h9)⟩
end Go.Proofs.Ytihgnnocagfdeaa
