/- Contracts and the law of JournalEntities, part 1: what was proved of each, callees first. -/
import Derived.Test.YthokdplikidhiaaGreatJP11
namespace Go.Proofs.YthokdplikidhiaaGreat
open Go.RowKit
def ofX (e : Int) (Xs : List Etl) : List Etl := Xs.filter fun p => decide (p.1.ent = e)
theorem ofX_yes {Xs : List Etl} {e : Int} {k : Nat} {p : Etl} (h : Xs[k]? = some p) (hp : p.1.ent = e) : ofX e (Xs.take (k + 1)) = ofX e (Xs.take k) ++ [p] := by
 unfold ofX
 rw [List.take_add_one, h, List.filter_append]
 simp [hp]
theorem ofX_no {Xs : List Etl} {e : Int} {k : Nat} {p : Etl} (h : Xs[k]? = some p) (hp : ¬ p.1.ent = e) : ofX e (Xs.take (k + 1)) = ofX e (Xs.take k) := by
 unfold ofX
 rw [List.take_add_one, h, List.filter_append]
 simp [hp]
set_option maxRecDepth 100000 in
set_option maxHeartbeats 6400000 in
theorem r12of_any (A : Option Addr) (c : Nat) (Xs : List Etl) (e : Int) (w : World) (hz : RowAt lyX w A (Xs.map (·.1))) (hl : Xs.length ≤ 1000) : Calls Tryz.prog 19 #[.slice A Xs.length c, .int .i64 e] w fun r w' => (∃ v, r = .returned v ∧ OwnR lyX 46 w' w.heap.size v ((ofX e Xs).map (·.1))) ∧ Below w.heap.size w w' := by
 obtain ⟨i0, hi, hz1, hz2, hz3⟩ := info_parts infoEx
 obtain ⟨n, hn⟩ : ∃ n, Xs.length = n := ⟨_, rfl⟩
 obtain ⟨B0, hB0⟩ : ∃ B0, w.heap.size = B0 := ⟨_, rfl⟩
 have HB0 := Lib.hid hB0
 have HN := Lib.hid hn
 have HZ := Lib.hid hz
 rw [hn] at hl ⊢
 rw [hB0]
 clear hn hz hB0
 go_enter Tryz.func19, Tryz.ntmps19
 go_wp2_with fail
 go_loopg [5, 6] n (fun kx s5 s6 wr => ∃ (k : Nat), s6 = .int .i64 (k : Int) ∧ k ≤ n ∧ n - k ≤ kx ∧ Hid (OwnR lyX 46 wr B0 s5 ((ofX e (Xs.take k)).map (·.1))) ∧ Hid (Below B0 w wr))
 case atStart => exact ⟨0, rfl, by omega, by omega, Lib.hid OwnR.nil, Lib.hid (Below.refl _ _)⟩
 case round =>
  obtain ⟨k, rfl, hk, hkx, HO, HB⟩ := hrel
  by_cases hlt : k < n
  ·have hltz : (k : Int) < (n : Int) := by omega
   obtain ⟨p, hp⟩ : ∃ p, Xs[k]? = some p := ⟨_, List.getElem?_eq_getElem (by rw [HN.out]; exact hlt)⟩
   have hym : (Xs.map (·.1))[k]? = some p.1 := by rw [List.getElem?_map, hp]; rfl
   obtain ⟨bb, off, hA, hbl, hrg⟩ := (HZ.out.up (HB.out.mono (Nat.le_of_eq HB0.out))).at hym
   subst hA
   obtain ⟨x, X⟩ := p
   have c1 : wr.cell? ⟨bb, off + k * 7 + 1, none⟩ = some (.int .i64 x.ent) := hrg 1 _ rfl
   have HLX : Hid ((Instr.loadAt 46 (.pointer (some ⟨bb, off + k * 7, none⟩))).run Tryz.prog wr = .ok (etyV x) wr) := Lib.hid (by rw [etyV_is]; exact run_loadAt_mid wr bb (off + k * 7) 46 (etyC x) _ (fun jj v hv => hrg jj v hv) Tryz.underlying46 rfl (by kernel_rfl))
   have HP := Lib.hid hp
   have HLN : Hid (((ofX e (Xs.take k)).map (·.1)).length ≤ 1000) := Lib.hid (by
    rw [List.length_map]
    have h1 := List.length_filter_le (fun p : Etl => decide (p.1.ent = e)) (Xs.take k)
    have h2 := List.length_take_le k Xs
    unfold ofX
    omega)
   clear hp hym hbl hrg
   by_cases he : x.ent = e
   ·have he1 : (x.ent == e) = true := by simp [he]
    have HT : Hid ((ofX e (Xs.take (k + 1))).map (·.1) = (ofX e (Xs.take k)).map (·.1) ++ [x]) := Lib.hid (by rw [ofX_yes HP.out he, List.map_append]; rfl)
    have hx8 : Below wr.heap.size wr (wr.alloc (.cells #[.int .i64 x.id, .int .i64 x.ent, .int .i64 x.day, .int .i64 x.kind, .int .i64 x.of_, .string x.txt, .slice x.A x.n x.c] 46)) := below_alloc_new _
    have HX8 := Lib.hid hx8
    have HR8 : Hid (RowAt lyX (wr.alloc (.cells #[.int .i64 x.id, .int .i64 x.ent, .int .i64 x.day, .int .i64 x.kind, .int .i64 x.of_, .string x.txt, .slice x.A x.n x.c] 46)) (some ⟨wr.heap.size, 0, none⟩) [x]) := Lib.hid (row_one (R := lyX) (x := x) (Wh.new wr 46 (etyC x)))
    have HA8 := Lib.hid (HO.out.up hx8)
    have HN1 : True := trivial
    clear hx8 he
    go_wp2_with (first
     | (clear HN1; refine wpList_load_is rfl 46 _ rfl (.pointer (some ⟨bb, off + k * 7, none⟩)) rfl (etyV x) HLX.out ?_)
     | (at_builtin; refine wpList_app_row (R := lyX) rfl (.tmp 20) (.tmp 25) 30 rfl i0 _ 80 Tryz.underlying30 hi hz1 hz2 hz3 (by omega) rfl rfl HA8.out (some ⟨wr.heap.size, 0, none⟩) 1 1 [x] rfl rfl HR8.out (by have := HLN.out; omega) (by have := HX8.out.size; have := HB.out.size; have := HB0.out; omega) ?_; intro v9 w9 hr9 hg9 hn9; have HR9 := Lib.hid hr9.out; have HG9 := Lib.hid hg9.out; clear hr9 hg9 hn9))
    have HB9 : Hid (Below B0 w w9) := Lib.hid ((HB.out.trans (HX8.out.mono (by have := HB.out.size; have := HB0.out; omega))).trans ((Only.grown (S := fun k => _ = some k) HG9.out fun k hk => hk).below (fun k hk => (HA8.out.lt hk).1) (by have := HB.out.size; have := HX8.out.size; have := HB0.out; omega)))
    go_roundg (n - (k + 1))
    case measure => omega
    case rel => exact ⟨k + 1, by go_num, by omega, by omega, Lib.hid (by rw [HT.out]; exact HR9.out), HB9⟩
   ·have he1 : (x.ent == e) = false := by simp [he]
    have HT : Hid ((ofX e (Xs.take (k + 1))).map (·.1) = (ofX e (Xs.take k)).map (·.1)) := Lib.hid (by rw [ofX_no HP.out he])
    clear he
    go_wp2_with fail
    go_roundg (n - (k + 1))
    case measure => omega
    case rel => exact ⟨k + 1, by go_num, by omega, by omega, Lib.hid (by rw [HT.out]; exact HO.out), HB⟩
  ·obtain rfl : n = k := by omega
   have hltz : ¬ (n : Int) < (n : Int) := by omega
   have hT : Xs.take n = Xs := List.take_of_length_le (by rw [HN.out]; exact Nat.le_refl _)
   rw [hT] at HO
   clear hT
   go_wp2_with fail
   go_ret
   exact ⟨⟨_, rfl, HO.out⟩, by first | exact HB.out | (rw [HB0.out]; exact HB.out)⟩
set_option maxRecDepth 100000 in
theorem of1_any (x : Ety) (e0 : Int) (s3 : Nat) (w : World) (h : Wh 3 w s3 [.int .i64 e0]) : Calls Tryz.prog 52 #[etyV x, .pointer (some ⟨s3, 0, none⟩)] w fun e w' => e = .returned (.bool (decide (x.ent = e0))) ∧ Below w.heap.size w w' := by
 obtain ⟨xs, hxs⟩ : ∃ xs, (etyC x).toArray = xs := ⟨_, rfl⟩
 have hxV : etyV x = .agg xs := by rw [etyV_is, hxs]
 rw [hxV]
 obtain ⟨s0, hs0⟩ : ∃ s0, w.heap.size = s0 := ⟨_, rfl⟩
 obtain ⟨w2, hw2⟩ : ∃ w2, w.alloc (.cells xs 46) = w2 := ⟨_, rfl⟩
 have HXB : Wh 46 w2 s0 (etyC x) := by rw [← hw2, ← hs0, ← hxs]; exact Wh.new w _ _
 have HB2 : Hid (Below w.heap.size w w2) := Lib.hid (by rw [← hw2]; exact below_alloc_new _)
 have HS0 := Lib.hid hs0
 have p1 := HXB.at 1 _ rfl
 have p3 := (h.up HB2.out).at 0 _ rfl
 clear h hxV hxs HXB
 by_cases he : x.ent = e0
 ·have he1 : (x.ent == e0) = true := by simp [he]
  rw [decide_eq_true he]
  clear he
  go_enter Tryz.func52, Tryz.ntmps52
  go_wp2_with fail
  go_ret
  exact ⟨by first | rfl | simp, by have h9 := HB2.out; first | exact h9 | (rw [← HS0.out]; exact h9)⟩
 ·have he1 : (x.ent == e0) = false := by simp [he]
  rw [decide_eq_false he]
  clear he
  go_enter Tryz.func52, Tryz.ntmps52
  go_wp2_with fail
  go_ret
  exact ⟨by first | rfl | simp, by have h9 := HB2.out; first | exact h9 | (rw [← HS0.out]; exact h9)⟩
set_option maxRecDepth 100000 in
set_option maxHeartbeats 6400000 in
theorem copof_any (A : Option Addr) (c : Nat) (Xs : List Etl) (e0 : Int) (s3 : Nat) (w : World) (hs3 : Wh 3 w s3 [.int .i64 e0]) (hz : RowAt lyX w A (Xs.map (·.1))) (hzs : EtysK w Xs) (hzn : ∀ p ∈ Xs, p.2.length ≤ 1000) (hl : Xs.length ≤ 100000) : Calls Tryz.prog 50 #[.slice A Xs.length c, .func (.func 52) #[] #[.pointer (some ⟨s3, 0, none⟩)]] w fun e w' => CopQ w.heap.size ((ofX e0 Xs).map pe) e w' ∧ Below w.heap.size w w' := by
 obtain ⟨i0, hi, hz1, hz2, hz3⟩ := info_parts infoEx
 obtain ⟨n, hn⟩ : ∃ n, Xs.length = n := ⟨_, rfl⟩
 rw [hn] at hl ⊢
 obtain ⟨B0, hB0⟩ : ∃ B0, w.heap.size = B0 := ⟨_, rfl⟩
 have HB0 := Lib.hid hB0
 have HN := Lib.hid hn
 have HZ := Lib.hid hz
 have HZS := Lib.hid hzs
 have HZN := Lib.hid hzn
 have HL := Lib.hid hl
 have HS3 : Hid (∀ W, Below B0 w W → Wh 3 W s3 [.int .i64 e0]) := Lib.hid (fun W h => hs3.up (by rw [hB0]; exact h))
 have HCS : Hid (∀ (Zs : List Etl) k, Zs.map pe = (ofX e0 (Xs.take k)).map pe → Zs.length ≤ k) := Lib.hid (fun Zs k h => by have h1 := congrArg List.length h; rw [List.length_map, List.length_map] at h1; have h2 := List.length_filter_le (fun p : Etl => decide (p.1.ent = e0)) (Xs.take k); have h3 := List.length_take_le k Xs; unfold ofX at h1; omega)
 clear hn hz hzs hzn hs3
 go_enter Tryz.func50, Tryz.ntmps50
 go_wp2_with fail
 go_loopg [5, 10] n (fun kx s5 s10 wr => ∃ (k : Nat) (Zs : List Etl), s10 = .int .i64 k ∧ k ≤ n ∧ n - k ≤ kx ∧ Hid (CopP wr B0 s5 Zs) ∧ Hid (Zs.map pe = (ofX e0 (Xs.take k)).map pe) ∧ Hid (Below B0 w wr))
 case atStart => exact ⟨0, [], rfl, by omega, by omega, Lib.hid ⟨OwnR.nil, fun p hp => by cases hp⟩, Lib.hid rfl, Lib.hid (Below.refl _ _)⟩
 case round =>
  obtain ⟨k, Zs, rfl, hk, hkx, HC, HE, HB⟩ := hrel
  by_cases hlt : k < n
  ·have hltz : (k : Int) < (n : Int) := by omega
   obtain ⟨q, hq⟩ : ∃ q, Xs[k]? = some q := ⟨_, List.getElem?_eq_getElem (by rw [HN.out]; exact hlt)⟩
   obtain ⟨y, Y⟩ := q
   have hmem : (y, Y) ∈ Xs := List.mem_of_getElem? hq
   have hYK := HZS.out _ hmem
   have HYK : Hid (EtyK w y Y) := Lib.hid hYK
   have HYn : Hid (y.n ≤ 1000) := Lib.hid (by have h1 : Y.length ≤ 1000 := HZN.out _ hmem; have h2 : Y.length = y.n := hYK.ln; omega)
   have HYL : Hid (Y.length = y.n) := Lib.hid hYK.ln
   have HYO : Hid (∀ l ∈ Y, okK (kOf l) ∧ (Lit.int .i64 l.tgt).wf = true) := Lib.hid hYK.ok
   obtain ⟨b, off, hA, hbl, hrg⟩ := HZ.out.at (i := k) (a := y) (by rw [List.getElem?_map, hq]; rfl)
   subst hA
   have HLY : Hid (∀ W, Below B0 w W → (Instr.loadAt 46 (.pointer (some ⟨b, off + k * 7, none⟩))).run Tryz.prog W = .ok (etyV y) W) := Lib.hid (fun W hW => run_loadAt_mid W b (off + k * 7) 46 (etyC y) _ (fun jj v hv => (hW.cell (p := ⟨b, off + k * 7 + jj, none⟩) (by rw [← HB0.out]; exact hbl)).trans (hrg jj v hv)) Tryz.underlying46 rfl (by kernel_rfl))
   have HTK : Hid ((y.ent = e0 → (ofX e0 (Xs.take (k + 1))).map pe = (ofX e0 (Xs.take k)).map pe ++ [pe (y, Y)]) ∧ (¬ y.ent = e0 → (ofX e0 (Xs.take (k + 1))).map pe = (ofX e0 (Xs.take k)).map pe)) := Lib.hid ⟨fun h => by rw [ofX_yes hq h, List.map_append]; rfl, fun h => by rw [ofX_no hq h]⟩
   have HLC : Hid (Zs.length ≤ k) := Lib.hid (HCS.out _ _ HE.out)
   obtain ⟨sr, hsr⟩ : ∃ sr, wr.heap.size = sr := ⟨_, rfl⟩
   have HSR := Lib.hid hsr
   have HM0 : True := trivial
   clear hq hmem hYK hrg hbl
   go_upto_region 5 with (first
    | (clear HM0; refine wpList_load_is rfl 46 _ rfl (.pointer (some ⟨b, off + k * 7, none⟩)) rfl (etyV y) (HLY.out _ HB.out) ?_)
    | (refine wpList_store_wh rfl 46 _ _ rfl sr rfl 46 [.int .i64 0, .int .i64 0, .int .i64 0, .int .i64 0, .int .i64 0, .string ⟨#[]⟩, .slice none 0 0] (etyC y) rfl (by rw [← HSR.out]; exact Wh.new wr 46 [.int .i64 0, .int .i64 0, .int .i64 0, .int .i64 0, .int .i64 0, .string ⟨#[]⟩, .slice none 0 0]) rfl (by kernel_rfl) (by kernel_rfl) ?_; intro w5 hr5 ho5 hz5; have HR5 := Lib.hid hr5.out; have hb5 : Below wr.heap.size wr w5 := only_new (by rw [HSR.out]; exact ho5.out); have HBR := Lib.hid hb5; have HC5 := Lib.hid (HC.out.up hb5); have HB5 := Lib.hid (HB.out.trans (hb5.mono (by have := HB.out.size; have := HB0.out; omega))); clear hr5 ho5 hz5 hb5 hsr HC HB))
   have HLE : Hid (∀ W, Below w5.heap.size w5 W → (Instr.loadAt 46 (.pointer (some ⟨sr, 0, none⟩))).run Tryz.prog W = .ok (etyV y) W) := Lib.hid (fun W hW => (HR5.out.up hW).rg.load 0 46 (etyC y) rfl _ Tryz.underlying46 rfl (by kernel_rfl))
   obtain ⟨YV, hYV⟩ : ∃ YV, YV = etyV y := ⟨_, rfl⟩
   have HE1 := Lib.hid (fun W (h : Below B0 w W) => of1_any y e0 s3 W (HS3.out W h))
   have HCO := Lib.hid (fun W (h : EtyK W y Y) => copyof_any y Y W h HYn.out)
   rw [← hYV] at HLE HE1 HCO
   clear hYV
   by_cases he : y.ent = e0
   ·have HY9 := Lib.hid he
    rw [decide_eq_true he] at HE1
    clear he
    have HM1 : True := trivial
    have HM2 : True := trivial
    go_wp2_with (first
     | (clear HM1; refine wpList_load_is rfl 46 _ rfl (.pointer (some ⟨sr, 0, none⟩)) rfl YV (HLE.out _ (Below.refl _ _)) ?_)
     | (clear HM2; refine wpList_load_is rfl 46 _ rfl (.pointer (some ⟨sr, 0, none⟩)) rfl YV (HLE.out _ HB6.out) ?_)
     | (go_at_call 52; refine (HE1.out _ HB5.out).mono ?_; rintro e w6 ⟨rfl, hb⟩; have HB6 := Lib.hid hb; clear hb)
     | (go_at_call 55; refine (HCO.out _ (HYK.out.up ((HB5.out.trans (HB6.out.mono (by have := HB5.out.size; have := HB0.out; omega))).mono (Nat.le_of_eq HB0.out)))).mono ?_; rintro e w7 ⟨⟨A6, c6, rfl, ho7⟩, hb⟩; have HO7 := Lib.hid ho7; have HB7 := Lib.hid (HB6.out.trans (hb.mono HB6.out.size)); clear hb ho7; rw [show etyV (y.at A6 c6) = .agg #[.int .i64 y.id, .int .i64 y.ent, .int .i64 y.day, .int .i64 y.kind, .int .i64 y.of_, .string y.txt, .slice A6 y.n c6] from rfl]; have HBX := Lib.hid (below_alloc_new (w := w7) (.cells #[.int .i64 y.id, .int .i64 y.ent, .int .i64 y.day, .int .i64 y.kind, .int .i64 y.of_, .string y.txt, .slice A6 y.n c6] 46)); have HWX : Hid (Wh 46 (w7.alloc (.cells #[.int .i64 y.id, .int .i64 y.ent, .int .i64 y.day, .int .i64 y.kind, .int .i64 y.of_, .string y.txt, .slice A6 y.n c6] 46)) w7.heap.size (etyC (y.at A6 c6))) := Lib.hid (Wh.new w7 46 (etyC (y.at A6 c6))); have HC7 := Lib.hid ((HC5.out.up HB7.out).up HBX.out); have HO8 := Lib.hid (HO7.out.up HBX.out))
     | (refine wpList_app_row (R := lyX) rfl _ _ 30 rfl i0 _ 80 Tryz.underlying30 hi hz1 hz2 hz3 (by omega) rfl rfl HC7.out.row (some ⟨w7.heap.size, 0, none⟩) 1 1 [y.at A6 c6] rfl rfl (row_one HWX.out) (by have := HLC.out; have := HL.out; simp; omega) (by have := HB5.out.size; have := HB7.out.size; have := HBX.out.size; have := HB0.out; omega) ?_; intro v9 w9 hr9 hg9 hb9; have HR9 := Lib.hid hr9.out; have HG9 := Lib.hid hg9.out; clear hr9 hg9 hb9))
    have hlo : OwnR lyL 59 (w7.alloc (.cells #[.int .i64 y.id, .int .i64 y.ent, .int .i64 y.day, .int .i64 y.kind, .int .i64 y.of_, .string y.txt, .slice A6 y.n c6] 46)) B0 (.slice A6 y.n c6) Y := HO8.out.low (by have := HB5.out.size; have := HB6.out.size; have := HB0.out; omega)
    have HC9 : Hid (CopP w9 B0 v9 (Zs ++ [(y.at A6 c6, Y)])) := Lib.hid (HC7.out.snoc (p := (y.at A6 c6, Y)) HG9.out HR9.out ⟨HYL.out, HYO.out, hlo⟩)
    have HE9 : Hid ((Zs ++ [(y.at A6 c6, Y)]).map pe = (ofX e0 (Xs.take (k + 1))).map pe) := Lib.hid (by rw [List.map_append, HE.out, HTK.out.1 HY9.out]; rfl)
    have HB9 : Hid (Below B0 w w9) := Lib.hid ((HB5.out.trans ((HB7.out.trans (HBX.out.mono HB7.out.size)).mono (by have := HB5.out.size; have := HB0.out; omega))).trans (grown_below0 HC7.out.row HG9.out (by have := HB5.out.size; have := HB7.out.size; have := HBX.out.size; have := HB0.out; omega)))
    clear hlo
    go_roundg (n - (k + 1))
    case measure => omega
    case rel => exact ⟨k + 1, _, by go_num, by omega, by omega, HC9, HE9, HB9⟩
   ·have HY9 := Lib.hid he
    rw [decide_eq_false he] at HE1
    clear he
    have HM1 : True := trivial
    go_wp2_with (first
     | (clear HM1; refine wpList_load_is rfl 46 _ rfl (.pointer (some ⟨sr, 0, none⟩)) rfl YV (HLE.out _ (Below.refl _ _)) ?_)
     | (go_at_call 52; refine (HE1.out _ HB5.out).mono ?_; rintro e w6 ⟨rfl, hb⟩; have HB6 := Lib.hid hb; clear hb))
    have HC6 := Lib.hid (HC5.out.up HB6.out)
    have HB9 : Hid (Below B0 w w6) := Lib.hid (HB5.out.trans (HB6.out.mono (by have := HB5.out.size; have := HB0.out; omega)))
    go_roundg (n - (k + 1))
    case measure => omega
    case rel => exact ⟨k + 1, Zs, by go_num, by omega, by omega, HC6, Lib.hid (by rw [HE.out, HTK.out.2 HY9.out]), HB9⟩
  ·obtain rfl : k = n := by omega
   have hltz : ¬ (k : Int) < (k : Int) := by omega
   go_wp2_with fail
   go_ret
   have hE9 : Zs.map pe = (ofX e0 Xs).map pe := by rw [HE.out, List.take_of_length_le (by rw [HN.out]; exact Nat.le_refl _)]
   exact ⟨by first | exact CopQ.mk HC.out hE9 | (rw [HB0.out]; exact CopQ.mk HC.out hE9), by first | exact HB.out | (rw [HB0.out]; exact HB.out)⟩
theorem jof_any {M : Nat → Prop} {B : Nat} (j : JD) (e : Int) (w : World) (hj : JK M B w j) (hn : j.n ≤ 100000) : Calls Tryz.prog 17 #[.pointer (some ⟨j.b, 0, none⟩), .int .i64 e] w fun r w' => CopQ w.heap.size ((ofX e j.Xs).map pe) r w' ∧ Below w.heap.size w w' := by
 obtain ⟨s3, hs3⟩ : ∃ s3, w.heap.size = s3 := ⟨_, rfl⟩
 obtain ⟨w2, hw2⟩ : ∃ w2, w.alloc (.cells #[.int .i64 e] 3) = w2 := ⟨_, rfl⟩
 have HXB : Hid (Wh 3 w2 s3 [.int .i64 e]) := Lib.hid (by rw [← hw2, ← hs3]; exact Wh.new w _ _)
 have HB2 : Hid (Below w.heap.size w w2) := Lib.hid (by rw [← hw2]; exact below_alloc_new _)
 have HJ2 := Lib.hid (hj.up HB2.out)
 have hA : RowAt lyX w2 j.A (j.Xs.map (·.1)) := by
  obtain ⟨A8, c8, e8, hr8, -⟩ := HJ2.out.row.reads
  injection e8 with e8 _ _
  rw [e8]; exact hr8
 have HAL := Lib.hid (all_any j w2 HJ2.out)
 have HCO := Lib.hid (copof_any j.A j.c j.Xs e s3 w2 HXB.out hA HJ2.out.ets.now (fun p hp => HJ2.out.good.ln _ (List.mem_map_of_mem (f := pe) hp)) (by rw [HJ2.out.ln]; exact hn))
 rw [HJ2.out.ln] at HCO
 have HS3 := Lib.hid hs3
 have HQ : Hid (∀ r w', CopQ w2.heap.size ((ofX e j.Xs).map pe) r w' → CopQ w.heap.size ((ofX e j.Xs).map pe) r w') := Lib.hid (fun r w' ⟨v, Zs, h1, h2, h3⟩ => ⟨v, Zs, h1, ⟨h2.row.low HB2.out.size, fun p hp => ⟨(h2.lns p hp).1, (h2.lns p hp).2.1, (h2.lns p hp).2.2.low HB2.out.size⟩⟩, h3⟩)
 clear hj hn hA
 go_enter Tryz.func17, Tryz.ntmps17
 go_wp2_with (first
  | (go_at_call 51; refine HAL.out.mono ?_; rintro r w3 ⟨rfl, hW⟩; subst hW)
  | (go_at_call 50; refine HCO.out.mono ?_; rintro r w4 ⟨hq, hb⟩; obtain ⟨v4, Zs4, rfl, hc4, he4⟩ := HQ.out _ _ hq; have HC4 := Lib.hid hc4; have HE4 := Lib.hid he4; have HB4 := Lib.hid hb; clear hq hc4 he4 hb))
 go_ret
 exact ⟨⟨v4, Zs4, by first | rfl | simp, by first | exact HC4.out | (rw [← HS3.out]; exact HC4.out), HE4.out⟩, by have h9 := HB2.out.trans (HB4.out.mono HB2.out.size); first | exact h9 | (rw [← HS3.out]; exact h9)⟩
theorem ofX_pe (e : Int) (Xs : List Etl) : (ofX e Xs).map pe = (Xs.map pe).filter fun q => decide (q.ent = e) := by
 unfold ofX
 rw [List.filter_map]
 rfl
def inX (k : Nat) (Os : List Etl) : List Etl := Os.filter fun p => decide (0 ≤ p.1.ent) && decide (p.1.ent < (k : Int))
theorem inX_succ (k : Nat) (Os : List Etl) : (inX (k + 1) Os).length = (inX k Os).length + (ofX (k : Int) Os).length := by
 unfold inX ofX
 induction Os with
 | nil => rfl
 | cons p Os ih =>
  rw [List.filter_cons, List.filter_cons, List.filter_cons]
  by_cases h1 : p.1.ent = (k : Int)
  ·have e1 : (decide (0 ≤ p.1.ent) && decide (p.1.ent < ((k + 1 : Nat) : Int))) = true := by simp; omega
   have e2 : (decide (0 ≤ p.1.ent) && decide (p.1.ent < (k : Int))) = false := by simp; omega
   have e3 : decide (p.1.ent = (k : Int)) = true := by simp [h1]
   rw [e1, e2, e3]
   simp only [if_true, List.length_cons, ih]
   simp
   omega
  ·have e3 : decide (p.1.ent = (k : Int)) = false := by simp [h1]
   have e1 : (decide (0 ≤ p.1.ent) && decide (p.1.ent < ((k + 1 : Nat) : Int))) = (decide (0 ≤ p.1.ent) && decide (p.1.ent < (k : Int))) := by
    rw [Bool.eq_iff_iff]
    simp
    omega
   rw [e1, e3]
   cases (decide (0 ≤ p.1.ent) && decide (p.1.ent < (k : Int)))
   ·simpa using ih
   ·simp only [if_true, List.length_cons, ih]
    simp
    omega
theorem inX_zero (Os : List Etl) : (inX 0 Os).length = 0 := by
 unfold inX
 rw [List.length_eq_zero_iff, List.filter_eq_nil_iff]
 intro p _
 simp
theorem inX_all {m : Nat} {Os : List Etl} (h : ∀ p ∈ Os, 0 ≤ p.1.ent ∧ p.1.ent < (m : Int)) : (inX m Os).length = Os.length := by
 unfold inX
 rw [List.filter_eq_self.2]
 intro p hp
 have := h p hp
 simp
 omega
set_option maxRecDepth 100000 in
set_option maxHeartbeats 12800000 in
theorem law_jents (g : Grp) (L : List Acc) (G : List Ent) (A : Option Addr) (n c : Nat) (Xs : List Etl) (b : Int) (w : World) (hk : GrK w g L G) (hw : GrW g L G) (hmx : g.m ≤ 9223372036854775807) (hn : Xs.length = n) (hnm : n ≤ 9223372036854775807) (hX : RowAt lyX w A (Xs.map (·.1))) (hq : ∀ a ∈ Xs, EtyK w a.1 a.2 ∧ a.1.n ≤ 9223372036854775807 ∧ a.1.txt.size ≤ maxLen ∧ EtyW a.1) :
  Calls Tryz.prog 4 #[grpV g, .slice A n c, .int .i64 b] w fun e w' => e = .returned (.bool true) ∧ Below w.heap.size w w' := by
 have HAW := Lib.hid jawake_any
 obtain ⟨s0, hs0⟩ : ∃ s0, w.heap.size = s0 := ⟨_, rfl⟩
 obtain ⟨w2, hw2⟩ : ∃ w2, w.alloc (.cells #[.string g.cur, .int .i64 g.cy, .int .i64 g.cm, .int .i64 g.cp, .slice g.A g.n g.c, .int .i64 g.r0, .int .i64 g.r1, .int .i64 g.r2, .int .i64 g.r3, .int .i64 g.r4, .int .i64 g.r5, .int .i64 g.r6, .int .i64 g.r7, .int .i64 g.r8, .int .i64 g.r9, .int .i64 g.r10, .int .i64 g.r11, .int .i64 g.r12, .int .i64 g.r13, .int .i64 g.r14, .slice g.E g.m g.d] 29) = w2 := ⟨_, rfl⟩
 have HGB : Hid (Wh 29 w2 s0 (grpC g)) := Lib.hid (by rw [← hw2, ← hs0]; exact Wh.new w 29 (grpC g))
 have HB2 : Hid (Below w.heap.size w w2) := Lib.hid (by rw [← hw2]; exact below_alloc_new _)
 have HKC := Lib.hid (hk.up HB2.out)
 have HXC := Lib.hid (hX.up HB2.out)
 have HEC : Hid (EtysK w2 Xs) := Lib.hid (fun p hp => (hq p hp).1.up HB2.out)
 have HQ : Hid (∀ p ∈ Xs, p.1.n ≤ 9223372036854775807 ∧ p.1.txt.size ≤ maxLen ∧ EtyW p.1) := Lib.hid (fun p hp => (hq p hp).2)
 have HWW := Lib.hid hw
 have HS0 := Lib.hid hs0
 have HNL := Lib.hid hn
 have HBC := Lib.hid (Below.refl w2.heap.size w2)
 obtain ⟨GV, hGV⟩ : ∃ GV, GV = grpV g := ⟨_, rfl⟩
 have HGV := Lib.hid hGV
 have HFW := Lib.hid (fun W (h : Below w2.heap.size w2 W) => by have h9 := r12few_any g G A c Xs W (HKC.out.up h).he hk.lg hmx (HXC.out.up h) (HEC.out.up h) (by rw [hn]; exact hnm) (fun p hp => ⟨(hq p hp).2.1, (hq p hp).2.2.1⟩); rw [← hGV, hn] at h9; exact h9)
 have HLG : Hid (∀ w9, Below w2.heap.size w2 w9 → (Instr.loadAt 29 (.pointer (some ⟨s0, 0, none⟩))).run Tryz.prog w9 = .ok GV w9) := Lib.hid (fun w9 h9 => by rw [hGV, grpV_is]; exact (HGB.out.up h9).rg.load 0 29 (grpC g) rfl _ Tryz.underlying29 rfl (by kernel_rfl))
 clear hk hGV hw hX hq hn hmx hnm
 have HM1 : True := trivial
 have HM2 : True := trivial
 cases hf : fewX Xs && few10 g G
 ·rw [hf] at HFW
  clear hf
  go_enter Tryz.func4, Tryz.ntmps4
  go_wp2_with (first
   | (go_at_call 13; refine (HAW.out _).mono ?_; rintro e w3 ⟨rfl, hb⟩; have hB3 := Lib.hid (HBC.out.trans (hb.mono HBC.out.size)); clear hb HBC; have HBC := hB3; clear hB3)
   | (clear HM1; refine wpList_load_is rfl 29 _ rfl (.pointer (some ⟨s0, 0, none⟩)) rfl GV (HLG.out _ HBC.out) ?_)
   | (go_at_call 14; refine (HFW.out _ HBC.out).mono ?_; rintro e w4 ⟨rfl, hb⟩; have hB3 := Lib.hid (HBC.out.trans (hb.mono HBC.out.size)); clear hb HBC; have HBC := hB3; clear hB3))
  go_ret
  exact ⟨by first | rfl | simp, (by have h9 := HB2.out.trans (HBC.out.mono HB2.out.size); first | exact h9 | (rw [← HS0.out]; exact h9))⟩
 ·rw [hf] at HFW
  have HFI := Lib.hid (few_is hf)
  clear hf
  have HPO := Lib.hid (fun W (h : Below w2.heap.size w2 W) => by have h9 := posted_any g L G A c Xs W (HKC.out.up h) HFI.out.1 HWW.out (HXC.out.up h) (HEC.out.up h) (by have := HFI.out.2.1; omega) (fun p hp => ⟨by have := HFI.out.2.2 p hp; omega, (HQ.out p hp).2.1, (HQ.out p hp).2.2.id, (HQ.out p hp).2.2.of_⟩); rw [← HGV.out, HNL.out] at h9; exact h9)
  cases hv : grpP g L G
  ·have HPN : Hid (∀ W e W', (∃ w3, Below W.heap.size W w3 ∧ PsQ g L G Xs w3 e W' ∧ Below w3.heap.size w3 W') → e = .returned (.tuple #[.pointer none, .slice none 0 0, .bool true]) ∧ Below W.heap.size W W') := Lib.hid (fun W e W' ⟨w3, h1, h2, h3⟩ => by
    unfold PsQ at h2
    rw [hv] at h2
    exact ⟨by simpa using h2, h1.trans (h3.mono h1.size)⟩)
   clear hv
   go_enter Tryz.func4, Tryz.ntmps4
   go_wp2_with (first
    | (go_at_call 13; refine (HAW.out _).mono ?_; rintro e w3 ⟨rfl, hb⟩; have hB3 := Lib.hid (HBC.out.trans (hb.mono HBC.out.size)); clear hb HBC; have HBC := hB3; clear hB3)
    | (clear HM1; refine wpList_load_is rfl 29 _ rfl (.pointer (some ⟨s0, 0, none⟩)) rfl GV (HLG.out _ HBC.out) ?_)
    | (go_at_call 14; refine (HFW.out _ HBC.out).mono ?_; rintro e w4 ⟨rfl, hb⟩; have hB3 := Lib.hid (HBC.out.trans (hb.mono HBC.out.size)); clear hb HBC; have HBC := hB3; clear hB3)
    | (clear HM2; refine wpList_load_is rfl 29 _ rfl (.pointer (some ⟨s0, 0, none⟩)) rfl GV (HLG.out _ HBC.out) ?_)
    | (go_at_call 15; refine (HPO.out _ HBC.out).mono ?_; intro e w5 hq; obtain ⟨rfl, hb⟩ := HPN.out _ _ _ hq; clear hq; have hB3 := Lib.hid (HBC.out.trans (hb.mono HBC.out.size)); clear hb HBC; have HBC := hB3; clear hB3))
   go_ret
   exact ⟨by first | rfl | simp, (by have h9 := HB2.out.trans (HBC.out.mono HB2.out.size); first | exact h9 | (rw [← HS0.out]; exact h9))⟩
  ·have HPY : Hid (∀ W e W', (∃ w3, Below W.heap.size W w3 ∧ PsQ g L G Xs w3 e W' ∧ Below w3.heap.size w3 W') → ∃ w3 jb j M Os A c, e = .returned (.tuple #[.pointer (some ⟨jb, 0, none⟩), .slice A Os.length c, .bool true]) ∧ PS g L G Xs w3 Xs.length Os jb j M (.slice A Os.length c) W' ∧ Below W.heap.size W W') := Lib.hid (fun W e W' ⟨w3, h1, h2, h3⟩ => by
    unfold PsQ at h2
    rw [hv, if_pos rfl] at h2
    obtain ⟨jb, j, M, Os, A, c, h4, h5⟩ := h2
    exact ⟨w3, jb, j, M, Os, A, c, h4, h5, h1.trans (h3.mono h1.size)⟩)
   clear hv
   go_enter Tryz.func4, Tryz.ntmps4
   go_wp2_with (first
    | (go_at_call 13; refine (HAW.out _).mono ?_; rintro e w3 ⟨rfl, hb⟩; have hB3 := Lib.hid (HBC.out.trans (hb.mono HBC.out.size)); clear hb HBC; have HBC := hB3; clear hB3)
    | (clear HM1; refine wpList_load_is rfl 29 _ rfl (.pointer (some ⟨s0, 0, none⟩)) rfl GV (HLG.out _ HBC.out) ?_)
    | (go_at_call 14; refine (HFW.out _ HBC.out).mono ?_; rintro e w4 ⟨rfl, hb⟩; have hB3 := Lib.hid (HBC.out.trans (hb.mono HBC.out.size)); clear hb HBC; have HBC := hB3; clear hB3)
    | (clear HM2; refine wpList_load_is rfl 29 _ rfl (.pointer (some ⟨s0, 0, none⟩)) rfl GV (HLG.out _ HBC.out) ?_)
    | (go_at_call 15; refine (HPO.out _ HBC.out).mono ?_; intro e w5 hq; obtain ⟨w3, jb, j, M, Os, A5, c5, rfl, hps, hb⟩ := HPY.out _ _ _ hq; have HPS := Lib.hid hps; clear hq hps; have hB3 := Lib.hid (HBC.out.trans (hb.mono HBC.out.size)); clear hb HBC; have HBC := hB3; clear hB3))
   obtain ⟨m, hm⟩ : ∃ m, g.m = m := ⟨_, rfl⟩
   have HM := Lib.hid hm
   have HMX : Hid (m ≤ 14) := Lib.hid (by rw [← hm]; exact HFI.out.1.m)
   have HC20 : Hid (∀ W, Below w2.heap.size w2 W → W.cell? ⟨s0, 20, none⟩ = some (.slice g.E m g.d)) := Lib.hid (fun W h => by rw [← hm]; exact (HGB.out.up h).at 20 _ rfl)
   have HOL : Hid (Os.length ≤ 61) := Lib.hid (by have := HPS.out.ln; have := HFI.out.2.1; omega)
   obtain ⟨o9, ho9⟩ : ∃ o9, Os.length = o9 := ⟨_, rfl⟩
   have HO9 := Lib.hid ho9
   rw [ho9] at HPS ⊢
   clear hm ho9
   have HOF : Hid (∀ W (e : Int), PS g L G Xs w3 Xs.length Os jb j M (.slice A5 o9 c5) W → Calls Tryz.prog 17 #[.pointer (some ⟨jb, 0, none⟩), .int .i64 e] W fun r w' => (∃ A c Zs, r = .returned (.slice A Zs.length c) ∧ Zs.map pe = (ofX e Os).map pe ∧ RowAt lyX w' A (Zs.map (·.1)) ∧ EtysK w' Zs) ∧ Below W.heap.size W w') := Lib.hid (fun W e h => by
    have h9 := jof_any j e W h.jk (by have := h.len; have := HFI.out.2.1; omega)
    rw [h.jb] at h9
    refine h9.mono fun r w' ⟨⟨v, Zs, h1, h2, h3⟩, h4⟩ => ⟨?_, h4⟩
    obtain ⟨A, c, n5, Zs2, q1, q2, q3, q4, q5⟩ := enP.mk h2 h3
    refine ⟨A, c, Zs2, by rw [h1, q1, q2], ?_, q4, q5⟩
    rw [q3, ofX_pe, ofX_pe, show j.Xs.map pe = Os.map pe from h.es])
   have HOR : Hid (∀ W (e : Int), PS g L G Xs w3 Xs.length Os jb j M (.slice A5 o9 c5) W → Calls Tryz.prog 19 #[.slice A5 o9 c5, .int .i64 e] W fun r w' => (∃ A c, r = .returned (.slice A (ofX e Os).length c) ∧ RowAt lyX w' A ((ofX e Os).map (·.1))) ∧ Below W.heap.size W w') := Lib.hid (fun W e h => by
    obtain ⟨A8, c8, e8, hr8, -⟩ := h.ow.reads
    injection e8 with e8 _ _
    have h9 := r12of_any A5 c5 Os e W (by rw [e8]; exact hr8) (by have := HOL.out; omega)
    rw [HO9.out] at h9
    refine h9.mono fun r w' ⟨⟨v, h1, h2⟩, h4⟩ => ⟨?_, h4⟩
    obtain ⟨A, c, q1, q2, -⟩ := h2.reads
    exact ⟨A, c, by rw [h1, q1, List.length_map], q2⟩)
   have HSA : Hid (∀ Z6 c6 A7 c7 (e : Int) n6 (Zs : List Etl) W, Below w2.heap.size w2 W → PS g L G Xs w3 Xs.length Os jb j M (.slice A5 o9 c5) W → Zs.length = n6 → Zs.map pe = (ofX e Os).map pe → RowAt lyX W Z6 (Zs.map (·.1)) → EtysK W Zs → RowAt lyX W A7 ((ofX e Os).map (·.1)) → Calls Tryz.prog 18 #[.slice Z6 n6 c6, .slice A7 (ofX e Os).length c7] W fun r w' => r = .returned (.bool true) ∧ Below W.heap.size W w') := Lib.hid (fun Z6 c6 A7 c7 e n6 Zs W hb h h1 h2 h3 h4 h5 => by
    have hzl : Zs.length = (ofX e Os).length := by have := congrArg List.length h2; simpa using this
    have hol : (ofX e Os).length ≤ 61 := by have h6 := List.length_filter_le (fun p : Etl => decide (p.1.ent = e)) Os; have := HOL.out; unfold ofX; omega
    have hon : ∀ p ∈ ofX e Os, p ∈ Xs := fun p hp => h.sub p (List.mem_filter.1 hp).1
    have hyn : ∀ p ∈ ofX e Os, p.2.length ≤ 1000 := fun p hp => by rw [(HEC.out p (hon p hp)).ln]; have := HFI.out.2.2 p (hon p hp); omega
    have hzn : ∀ p ∈ Zs, p.2.length ≤ 1000 := fun p hp => by
     have h6 : pe p ∈ (ofX e Os).map pe := by rw [← h2]; exact List.mem_map_of_mem hp
     obtain ⟨q, hq, e1⟩ := List.mem_map.1 h6
     rw [show p.2 = q.2 from (congrArg PE.ls e1).symm]
     exact hyn q hq
    have h9 := r12same_any Z6 A7 c6 c7 Zs (ofX e Os) W h3 h4 hzn h5 (fun p hp => (HEC.out.up hb) p (hon p hp)) hyn (by omega) (by omega)
    rw [decide_eq_true h2, h1] at h9
    exact h9)
   have HZO : Hid (∀ (e : Int) (Zs : List Etl), Zs.map pe = (ofX e Os).map pe → ∀ p ∈ Zs, Go.Proofs.YthokdplikidhiaaGreat.wr (sumT p.2) = 0 ∧ p.2.length ≤ 1000) := Lib.hid (fun e Zs h2 p hp => by
    have h6 : pe p ∈ (ofX e Os).map pe := by rw [← h2]; exact List.mem_map_of_mem hp
    obtain ⟨q, hq, e1⟩ := List.mem_map.1 h6
    rw [show p.2 = q.2 from (congrArg PE.ls e1).symm]
    have hqo := (List.mem_filter.1 hq).1
    have hqx := HPS.out.sub q hqo
    exact ⟨(HPS.out.ok q hqo).1, by rw [(HEC.out q hqx).ln]; have := HFI.out.2.2 q hqx; omega⟩)
   have HIA : Hid ((inX m Os).length = o9) := Lib.hid (by rw [inX_all fun p hp => by have := (HPS.out.ok p hp).2; have := HM.out; omega]; exact HO9.out)
   go_loopg [10, 11] m (fun kx s10 s11 wr => ∃ (k : Nat), s10 = .int .i64 ((inX k Os).length : Int) ∧ s11 = .int .i64 (k : Int) ∧ k ≤ m ∧ m - k ≤ kx ∧ Hid (PS g L G Xs w3 Xs.length Os jb j M (.slice A5 o9 c5) wr) ∧ Hid (Below w2.heap.size w2 wr))
   case atStart => exact ⟨0, by rw [inX_zero]; rfl, rfl, by omega, by omega, HPS, HBC⟩
   case round =>
    obtain ⟨k, rfl, rfl, hk, hkx, HP, HB⟩ := hrel
    have c20 := HC20.out _ HB.out
    by_cases hlt : k < m
    ·have hltz : (k : Int) < (m : Int) := by omega
     have HKM : Hid (k ≤ 14) := Lib.hid (by have := HMX.out; omega)
     have HIS := Lib.hid (inX_succ k Os)
     have HQ1 : Hid ((inX k Os).length ≤ 61) := Lib.hid (by have h1 := List.length_filter_le (fun p : Etl => decide (0 ≤ p.1.ent) && decide (p.1.ent < (k : Int))) Os; have := HOL.out; unfold inX; omega)
     have HQ2 : Hid ((ofX (k : Int) Os).length ≤ 61) := Lib.hid (by have h1 := List.length_filter_le (fun p : Etl => decide (p.1.ent = (k : Int))) Os; have := HOL.out; unfold ofX; omega)
     have HM3 : True := trivial
     go_upto_region 18 with (first
      | (go_at_call 17; refine (HOF.out _ (k : Int) HP.out).mono ?_; rintro r w6 ⟨⟨Z6, c6, Zs, rfl, z1, z2, z3⟩, hb⟩; have HZ1 := Lib.hid z1; have HZ2 := Lib.hid z2; have HZ3 := Lib.hid z3; have HP6 := Lib.hid (HP.out.up hb); have HB6 := Lib.hid (HB.out.trans (hb.mono HB.out.size)); clear z1 z2 z3 hb; obtain ⟨n6, hn6⟩ : ∃ n6, Zs.length = n6 := ⟨_, rfl⟩; have HN6 := Lib.hid hn6; rw [hn6])
      | (go_at_call 19; refine (HOR.out _ (k : Int) HP6.out).mono ?_; rintro r w7 ⟨⟨A7, c7, rfl, z4⟩, hb⟩; have HZ4 := Lib.hid z4; have HP7 := Lib.hid (HP6.out.up hb); have HB7 := Lib.hid (HB6.out.trans (hb.mono HB6.out.size)); have HY2 := Lib.hid (HZ2.out.up hb); have HY3 := Lib.hid (HZ3.out.up hb); clear z4 hb)
      | (go_at_call 18; refine (HSA.out Z6 c6 A7 c7 (k : Int) n6 Zs _ HB7.out HP7.out HN6.out HZ1.out HY2.out HY3.out HZ4.out).mono ?_; rintro r w8 ⟨rfl, hb⟩; have HP8 := Lib.hid (HP7.out.up hb); have HB8 := Lib.hid (HB7.out.trans (hb.mono HB7.out.size)); have HX2 := Lib.hid (HY2.out.up hb); have HX3 := Lib.hid (HY3.out.up hb); clear hb))
     have HN61 : Hid (n6 = (ofX (k : Int) Os).length) := Lib.hid (by rw [← HN6.out]; have := congrArg List.length HZ1.out; simpa using this)
     have HZE := Lib.hid (HZO.out (k : Int) Zs HZ1.out)
     have hn61 : n6 ≤ 61 := by have := HN61.out; have := HQ2.out; omega
     go_loopg [13, 14] n6 (fun kz s13 s14 wz => ∃ (t : Nat), s13 = .int .i64 0 ∧ s14 = .int .i64 (t : Int) ∧ t ≤ n6 ∧ n6 - t ≤ kz ∧ Hid (PS g L G Xs w3 Xs.length Os jb j M (.slice A5 o9 c5) wz) ∧ Hid (Below w2.heap.size w2 wz) ∧ Hid (RowAt lyX wz Z6 (Zs.map (·.1))) ∧ Hid (EtysK wz Zs))
     case atStart => exact ⟨0, rfl, rfl, by omega, by omega, HP8, HB8, HX2, HX3⟩
     case round =>
      obtain ⟨t, rfl, rfl, ht, htz, HPt, HBt, HRt, HKt⟩ := hrel
      by_cases hlu : t < n6
      ·have hluz : (t : Int) < (n6 : Int) := by omega
       obtain ⟨p, hp⟩ : ∃ p, Zs[t]? = some p := ⟨_, List.getElem?_eq_getElem (by rw [HN6.out]; exact hlu)⟩
       have hpm := List.mem_of_getElem? hp
       have hym : (Zs.map (·.1))[t]? = some p.1 := by rw [List.getElem?_map, hp]; rfl
       have hkk := HKt.out p hpm
       obtain ⟨hs1, hs2⟩ := HZE.out p hpm
       obtain ⟨bb, off, hA, hbl, hrg⟩ := HRt.out.at hym
       subst hA
       obtain ⟨z, Z⟩ := p
       have c6_ : wr.cell? ⟨bb, off + t * 7 + 6, none⟩ = some (.slice z.A z.n z.c) := hrg 6 _ rfl
       have HSU := Lib.hid (rsum11_any z.A z.c Z wr hkk.hz hs2)
       rw [hs1, hkk.ln] at HSU
       clear hp hpm hym hkk hs1 hs2 hbl hrg
       go_wp2_with (go_at_call 20; refine HSU.out.mono ?_; rintro r w9 ⟨rfl, hb⟩; have HPu := Lib.hid (HPt.out.up hb); have HBu := Lib.hid (HBt.out.trans (hb.mono HBt.out.size)); have HRu := Lib.hid (HRt.out.up hb); have HKu := Lib.hid (HKt.out.up hb); clear hb)
       go_roundg (n6 - (t + 1))
       case measure => omega
       case rel => exact ⟨t + 1, by first | rfl | go_num, by go_num, by omega, by omega, HPu, HBu, HRu, HKu⟩
      ·obtain rfl : n6 = t := by omega
       have hluz : ¬ (n6 : Int) < (n6 : Int) := by omega
       go_wp2_with fail
       go_roundg (m - (k + 1))
       case measure => omega
       case rel => exact ⟨k + 1, by (have h1 := HIS.out; have h2 := HN61.out; have h3 := HQ1.out; first | (refine congrArg (Value.int .i64) ?_; unfold wrap64; omega) | go_num), by (have h3 := HKM.out; first | (refine congrArg (Value.int .i64) ?_; unfold wrap64; omega) | go_num), by omega, by omega, HPt, HBt⟩
    ·obtain rfl : k = m := by omega
     have hltz : ¬ (k : Int) < (k : Int) := by omega
     rw [HIA.out]
     have hoo : ((o9 : Int) == (o9 : Int)) = true := by simp
     go_wp2_with (first
      | (go_at_call 17; refine (HOF.out _ b HP.out).mono ?_; rintro r w6 ⟨⟨Z6, c6, Zs, rfl, z1, z2, z3⟩, hb⟩; have HZ1 := Lib.hid z1; have HZ2 := Lib.hid z2; have HZ3 := Lib.hid z3; have HP6 := Lib.hid (HP.out.up hb); have HB6 := Lib.hid (HB.out.trans (hb.mono HB.out.size)); clear z1 z2 z3 hb; obtain ⟨n6, hn6⟩ : ∃ n6, Zs.length = n6 := ⟨_, rfl⟩; have HN6 := Lib.hid hn6; rw [hn6])
      | (go_at_call 19; refine (HOR.out _ b HP6.out).mono ?_; rintro r w7 ⟨⟨A7, c7, rfl, z4⟩, hb⟩; have HZ4 := Lib.hid z4; have HP7 := Lib.hid (HP6.out.up hb); have HB7 := Lib.hid (HB6.out.trans (hb.mono HB6.out.size)); have HY2 := Lib.hid (HZ2.out.up hb); have HY3 := Lib.hid (HZ3.out.up hb); clear z4 hb)
      | (go_at_call 18; refine (HSA.out Z6 c6 A7 c7 b n6 Zs _ HB7.out HP7.out HN6.out HZ1.out HY2.out HY3.out HZ4.out).mono ?_; rintro r w8 ⟨rfl, hb⟩; have HB8 := Lib.hid (HB7.out.trans (hb.mono HB7.out.size)); clear hb))
     go_ret
     exact ⟨by first | rfl | simp, (by have h9 := HB2.out.trans (HB8.out.mono HB2.out.size); first | exact h9 | (rw [← HS0.out]; exact h9))⟩
end Go.Proofs.YthokdplikidhiaaGreat
