/- Contracts and the law of MappingOrder, part 1: what was proved of each, callees first. -/
import Derived.Deep.RegionLaw
import Derived.Test.YtmahnpbjjadipaaMK5
namespace Go.Proofs.Ytmahnpbjjadipaa
instance : DecidableEq Bal := fun a b => decidable_of_iff (a.acct = b.acct ∧ a.amt = b.amt) (by cases a; cases b; simp)
def cd (L : List Acc) (i : Nat) : Int := (L.getD i acc0).code
open Go.RowKit
theorem wpList_app_bals {P : Program} {w : World} {ops : Array Oper} {rest : List Oper} {o : Oper} {a : Act} {Q : Exit → Act → World → Prop} (hgd : o.guard = none) (s x : Operand) (t : TypeId)
  (ho : o.op = .call { callee := .builtin .append, args := #[s, x], argTypes := #[t, t] })
  (base : Nat) (e : TypeId) (i : TypeInfo) (bytes : Nat) (ht : P.underlying t = some (.slice e)) (hi : P.info? e = some i) (hz : i.zero = some (.agg #[.int .i64 0, .int .i64 0])) (hsize : i.size = 2) (hby : i.bytes = bytes) (hb8 : bytes ≤ 16)
  (v : Value) (L : List Bal) (hs : a.eval s = v) (hown : OwnB e w base v L) (X : Option Addr) (m c : Nat) (M : List Bal) (hm : M.length = m) (hx : a.eval x = .slice X m c) (hX : BalAt w X M)
  (hlen : L.length + m ≤ 100000000) (hbase : base ≤ w.heap.size)
  (h : ∀ v' w', Hid (OwnB e w' base v' (L ++ M)) → Hid (w.grownBy w' v.ownBlock) → Below base w w' → wpList P ops Q rest (a.put o.dst v') w') : wpList P ops Q (o :: rest) a w := by
 refine wpList_plain hgd fun K hK => ?_
 have h9 := step_app_bals (ops := ops) (tm := #[]) (Q := Q) (K := K) (E := True) hgd s x t ho base e i bytes ht hi hz hsize hby hb8 v L hs hown X m c M hm hx hX hlen hbase (fun v' w' h1 h2 h3 => hK _ _ (h v' w' h1 h2 h3))
 rwa [if_pos (by simp [Region.wanted, hgd])] at h9
set_option maxRecDepth 20000 in
set_option maxHeartbeats 3200000 in
theorem mpsum_any (C X : Option Addr) (cc cx : Nat) (L : List Acc) (b : List Bal) (kind : Int) (w : World) (hz : AccAt w C L) (hy : BalAt w X b) (hl : L.length ≤ 1000) (hm : b.length ≤ 1000) (ha : ∀ x ∈ b, amtB x.amt = true) :
  Calls Try.prog 21 #[.slice C L.length cc, .slice X b.length cx, .int .i64 kind] w fun e w' => e = .returned (.int .i64 (kinS L b kind)) ∧ Below w.heap.size w w' := by
 have hB := Below.refl w.heap.size w
 have hf := fun y w h => rfind_any C cc L y w h hl
 have hbd : ∀ k, -(1000 * 1000000000000 : Int) ≤ kinS L (b.take k) kind ∧ kinS L (b.take k) kind ≤ 1000 * 1000000000000 := fun k => by
  have h1 := kinS_bound (L := L) (k := kind) (b := b.take k) (fun x hx => ha x (List.mem_of_mem_take hx))
  have h2 : (b.take k).length ≤ 1000 := by rw [List.length_take]; omega
  have h3 : ((b.take k).length : Int) ≤ 1000 := by omega
  omega
 have htk := fun k hk => kinS_take (L := L) (b := b) (k := kind) (i := k) hk
 have hko : ∀ c, kinOf L kind c = (decide (kind = 0) || ((fnd L c).isSome && decide ((fndA L c).kind = kind))) := fun _ => rfl
 have h0 : kinS L (b.take 0) kind = 0 := rfl
 have hend : ∀ k, b.length ≤ k → kinS L (b.take k) kind = kinS L b kind := fun k hk => by rw [List.take_of_length_le hk]
 generalize kinS L b kind = R at *
 obtain ⟨F, hF⟩ : ∃ F : Nat → Int, (fun k => kinS L (b.take k) kind) = F := ⟨_, rfl⟩
 have hFk : ∀ k, kinS L (b.take k) kind = F k := fun k => by rw [← hF]
 simp only [hFk] at hbd htk h0 hend
 obtain ⟨n, hn⟩ : ∃ n, L.length = n := ⟨_, rfl⟩
 obtain ⟨m, hm2⟩ : ∃ m, b.length = m := ⟨_, rfl⟩
 rw [hn] at hf ⊢
 rw [hm2] at htk hend hm ⊢
 have HM := Lib.hid hm2
 have HZ := Lib.hid hz
 have HY := Lib.hid hy
 have HF := Lib.hid hf
 have HBD := Lib.hid hbd
 have HTK := Lib.hid htk
 have HKO := Lib.hid hko
 have H0 := Lib.hid h0
 have HEND := Lib.hid hend
 have HAM := Lib.hid ha
 clear hn hm2 hz hy hf hbd htk hko h0 hend hF hFk ha hl
 go_enter Try.func21, Try.ntmps21
 go_wp2_with fail
 go_loopg [7, 8] m (fun kx s7 s8 wr => ∃ k : Nat, s7 = .int .i64 (F k) ∧ s8 = .int .i64 k ∧ k ≤ m ∧ m - k ≤ kx ∧ Below w.heap.size w wr)
 case atStart => exact ⟨0, by rw [H0.out], rfl, by omega, by omega, hB⟩
 case round =>
  clear hB
  obtain ⟨k, rfl, rfl, hk, hkx, hB⟩ := hrel
  by_cases hlt : k < m
  ·have hltz : (k : Int) < (m : Int) := by omega
   obtain ⟨bb, off, rfl, hbw, hcs⟩ := HY.out (by rw [HM.out]; omega)
   have b2 := (hcs k (by rw [HM.out]; exact hlt)).up hB hbw
   have htk := HTK.out k hlt
   have hbd := HBD.out k
   have ham := amtB_is.1 (HAM.out _ (getD_mem_acc (d := bal0) (show k < b.length by rw [HM.out]; exact hlt)))
   obtain ⟨x, hx⟩ : ∃ x, b.getD k bal0 = x := ⟨_, rfl⟩
   rw [hx] at b2 htk ham
   have hko := HKO.out x.acct
   have hf := HF.out x.acct wr (HZ.out.up hB)
   rw [hko] at htk
   generalize (fnd L x.acct).isSome = q1 at *
   generalize fndA L x.acct = fa at *
   obtain ⟨S, hS⟩ : ∃ S, F k = S := ⟨_, rfl⟩
   rw [hS] at htk hbd ⊢
   obtain ⟨S2, hS2⟩ : ∃ S2, F (k + 1) = S2 := ⟨_, rfl⟩
   rw [hS2] at htk
   have HS2 := Lib.hid hS2
   have HFx := Lib.hid hf
   have HBK := Lib.hid hB
   have HB2 := Lib.hid b2
   obtain ⟨p0, p1⟩ := b2
   have hbW : bb < wr.heap.size := Nat.lt_of_lt_of_le hbw hB.size
   clear hcs hx hko hf hS hS2
   by_cases h0 : kind = 0
   ·have e0 : (kind == 0) = true := by simp [h0]
    rw [decide_eq_true h0, Bool.true_or, if_pos rfl] at htk
    clear h0
    have hw : IntKind.i64.wrap (S + x.amt) = S2 := by rw [htk, IntKind.wrap_i64]; omega
    clear htk hbd ham
    go_wp2_with (go_at_call 26; (with_reducible refine HFx.out.mono ?_); rintro e w2 ⟨rfl, hb⟩; have HA3 := ab_new w2 50 fa; obtain ⟨⟨x0, x1, x2, x3⟩, xlt⟩ := HA3; simp only [Nat.zero_add] at x1 x2 x3; have hb3 := below_new hb (.cells #[.int .i64 fa.code, .int .i64 fa.kind, .int .i64 fa.basis, .int .i64 fa.par] 50); obtain ⟨r0, r1⟩ := HB2.out.up hb3 hbW; have hBn := below_more HBK.out hb3; clear hb hb3 p0 p1)
    go_roundg (m - (k + 1))
    case measure => omega
    case rel => exact ⟨k + 1, by rw [HS2.out], by go_num, by omega, by omega, hBn⟩
   ·have e0 : (kind == 0) = false := by simp [h0]
    rw [decide_eq_false h0, Bool.false_or] at htk
    clear h0
    cases q1
    ·rw [Bool.false_and, if_neg (by decide)] at htk
     have hse : S2 = S := by omega
     clear htk hbd ham
     go_wp2_with (go_at_call 26; (with_reducible refine HFx.out.mono ?_); rintro e w2 ⟨rfl, hb⟩; have HA3 := ab_new w2 50 fa; obtain ⟨⟨x0, x1, x2, x3⟩, xlt⟩ := HA3; simp only [Nat.zero_add] at x1 x2 x3; have hb3 := below_new hb (.cells #[.int .i64 fa.code, .int .i64 fa.kind, .int .i64 fa.basis, .int .i64 fa.par] 50); obtain ⟨r0, r1⟩ := HB2.out.up hb3 hbW; have hBn := below_more HBK.out hb3; clear hb hb3 p0 p1)
     go_roundg (m - (k + 1))
     case measure => omega
     case rel => exact ⟨k + 1, by rw [HS2.out, hse], by go_num, by omega, by omega, hBn⟩
    ·rw [Bool.true_and] at htk
     by_cases h1 : fa.kind = kind
     ·have e1 : (fa.kind == kind) = true := by simp [h1]
      rw [decide_eq_true h1, if_pos rfl] at htk
      clear h1
      have hw : IntKind.i64.wrap (S + x.amt) = S2 := by rw [htk, IntKind.wrap_i64]; omega
      clear htk hbd ham
      go_wp2_with (go_at_call 26; (with_reducible refine HFx.out.mono ?_); rintro e w2 ⟨rfl, hb⟩; have HA3 := ab_new w2 50 fa; obtain ⟨⟨x0, x1, x2, x3⟩, xlt⟩ := HA3; simp only [Nat.zero_add] at x1 x2 x3; have hb3 := below_new hb (.cells #[.int .i64 fa.code, .int .i64 fa.kind, .int .i64 fa.basis, .int .i64 fa.par] 50); obtain ⟨r0, r1⟩ := HB2.out.up hb3 hbW; have hBn := below_more HBK.out hb3; clear hb hb3 p0 p1)
      go_roundg (m - (k + 1))
      case measure => omega
      case rel => exact ⟨k + 1, by rw [HS2.out], by go_num, by omega, by omega, hBn⟩
     ·have e1 : (fa.kind == kind) = false := by simp [h1]
      rw [decide_eq_false h1, if_neg (by decide)] at htk
      clear h1
      have hse : S2 = S := by omega
      clear htk hbd ham
      go_wp2_with (go_at_call 26; (with_reducible refine HFx.out.mono ?_); rintro e w2 ⟨rfl, hb⟩; have HA3 := ab_new w2 50 fa; obtain ⟨⟨x0, x1, x2, x3⟩, xlt⟩ := HA3; simp only [Nat.zero_add] at x1 x2 x3; have hb3 := below_new hb (.cells #[.int .i64 fa.code, .int .i64 fa.kind, .int .i64 fa.basis, .int .i64 fa.par] 50); obtain ⟨r0, r1⟩ := HB2.out.up hb3 hbW; have hBn := below_more HBK.out hb3; clear hb hb3 p0 p1)
      go_roundg (m - (k + 1))
      case measure => omega
      case rel => exact ⟨k + 1, by rw [HS2.out, hse], by go_num, by omega, by omega, hBn⟩
  ·obtain rfl : k = m := by omega
   have hltz : ¬ (k : Int) < (k : Int) := by omega
   have E := Lib.hid (HEND.out k (Nat.le_refl _))
   generalize F k = z at *
   go_wp2_with fail
   go_ret
   exact ⟨by rw [E.out]; rfl, hB⟩
set_option maxRecDepth 20000 in
set_option maxHeartbeats 3200000 in
theorem law_mpmove (nm cur : ByteArray) (A : Option Addr) (n c : Nat) (L : List Acc) (B : Option Addr) (m d : Nat) (K : List Lnk) (jt : Bool) (C : Option Addr) (k cb : Nat) (b : List Bal) (day : Int) (w : World) (hk : EntK w A n L B m K) (hlen : b.length = k) (hx : BalAt w C b) (hwb : ∀ y ∈ b, (Lit.int .i64 y.acct).wf = true) :
  Calls Try.prog 5 #[entV nm cur A n c B m d jt, .slice C k cb, .int .i64 day] w fun e w' => e = .returned (.bool true) ∧ Below w.heap.size w w' := by
 have hB := below_alloc_new (w := w) (.cells #[.string nm, .string cur, .slice A n c, .slice B m d, .bool jt] 25)
 have HE := Lib.hid (eb_new w 25 nm cur A n c B m d jt)
 have HZ := Lib.hid (hk.hz.up hB)
 have HY := Lib.hid (hk.hy.up hB)
 have hfw := fun w => rfew9_any nm cur A n c B m d jt w
 have hfq := fewB_is (nm := nm) (cur := cur) (n := n) (m := m)
 generalize fewB nm cur n m = fb at *
 have HX := Lib.hid (hx.up hB)
 obtain ⟨s0, hs0⟩ : ∃ s0, w.heap.size = s0 := ⟨_, rfl⟩
 rw [hs0] at hB
 have HS0 := Lib.hid hs0
 have HFW := Lib.hid hfw
 have HK := Lib.hid hk
 have HLK := Lib.hid hlen
 have HWB := Lib.hid hwb
 clear hk hfw hs0 hx hlen hwb
 obtain ⟨c0, c1, c2, c3, c4, lt⟩ := HE.out
 cases fb
 ·clear hfq HK
  go_enter Try.func5, Try.ntmps5
  go_wp2_with (first
   | (go_at_call 9; refine (mpawake_any _).mono ?_; rintro e w1 ⟨rfl, hb⟩; replace HE := Lib.hid (HE.out.up hb); replace HZ := Lib.hid (HZ.out.up hb); replace HY := Lib.hid (HY.out.up hb); replace HX := Lib.hid (HX.out.up hb); have hsq := hB.size; rw [HS0.out] at hsq; replace hB := hB.trans (hb.mono hsq); clear hb hsq c0 c1 c2 c3 c4 lt; obtain ⟨c0, c1, c2, c3, c4, lt⟩ := HE.out)
   | (go_at_call 10; (with_reducible refine (HFW.out _).mono ?_); rintro e w1 ⟨rfl, hb⟩; replace HE := Lib.hid (HE.out.up hb); replace HZ := Lib.hid (HZ.out.up hb); replace HY := Lib.hid (HY.out.up hb); replace HX := Lib.hid (HX.out.up hb); have hsq := hB.size; rw [HS0.out] at hsq; replace hB := hB.trans (hb.mono hsq); clear hb hsq c0 c1 c2 c3 c4 lt; obtain ⟨c0, c1, c2, c3, c4, lt⟩ := HE.out))
  go_ret
  exact ⟨rfl, by first | exact hB | (rw [HS0.out]; exact hB)⟩
 obtain ⟨h5, h6⟩ := hfq rfl
 clear hfq
 rcases Nat.lt_or_ge 60 k with hk6 | hk6
 ·have ek : decide ((60 : Int) < (k : Int)) = true := decide_eq_true (by omega)
  clear HK hk6 h5 h6
  go_enter Try.func5, Try.ntmps5
  go_wp2_with (first
   | (go_at_call 9; refine (mpawake_any _).mono ?_; rintro e w1 ⟨rfl, hb⟩; replace HE := Lib.hid (HE.out.up hb); replace HZ := Lib.hid (HZ.out.up hb); replace HY := Lib.hid (HY.out.up hb); replace HX := Lib.hid (HX.out.up hb); have hsq := hB.size; rw [HS0.out] at hsq; replace hB := hB.trans (hb.mono hsq); clear hb hsq c0 c1 c2 c3 c4 lt; obtain ⟨c0, c1, c2, c3, c4, lt⟩ := HE.out)
   | (go_at_call 10; (with_reducible refine (HFW.out _).mono ?_); rintro e w1 ⟨rfl, hb⟩; replace HE := Lib.hid (HE.out.up hb); replace HZ := Lib.hid (HZ.out.up hb); replace HY := Lib.hid (HY.out.up hb); replace HX := Lib.hid (HX.out.up hb); have hsq := hB.size; rw [HS0.out] at hsq; replace hB := hB.trans (hb.mono hsq); clear hb hsq c0 c1 c2 c3 c4 lt; obtain ⟨c0, c1, c2, c3, c4, lt⟩ := HE.out))
  go_ret
  exact ⟨rfl, by first | exact hB | (rw [HS0.out]; exact hB)⟩
 have ek : decide ((60 : Int) < (k : Int)) = false := decide_eq_false (by omega)
 have hK2 := HK.out
 have hln : L.length ≤ 1000 := by have := hK2.ln; omega
 have hlm : K.length ≤ 1000 := by have := hK2.lm; omega
 have hlb : b.length ≤ 1000 := by have := HLK.out; omega
 have h1 := fun C cb w h h' h'' => cmove9_any nm cur A c L B d K jt C cb b day w h h' h'' hln hlm hlb hK2.wa hK2.wl HWB.out
 have h2 := fun w h h' h'' => rmove9_any nm cur A c L B d K jt C cb b day w h h' h'' hln hlm hlb
 rw [hK2.ln, hK2.lm, HLK.out] at h1 h2
 have hml := moveL_len (L := L) (K := K) (day := day) (b := b)
 generalize moveE L K day b = er at *
 generalize moveL L K day b = M at *
 obtain ⟨nl, hnl⟩ : ∃ nl, M.length = nl := ⟨_, rfl⟩
 have s1 := fun A B c d w h1 h2 => rsameb_any A B c d M M w h1 h2 (by omega) (by omega)
 have s2 := fun A B c d w h1 h2 => rsameb_any A B c d b b w h1 h2 (by omega) (by omega)
 rw [show decide (M = M) = true from by simp, hnl] at s1
 rw [show decide (b = b) = true from by simp, HLK.out] at s2
 have ett : (er == er) = true := by simp
 obtain ⟨i0, hi, hz1, hz2, hz3⟩ := info_parts infoI_bal
 have H1 := Lib.hid h1
 have H2 := Lib.hid h2
 have S1 := Lib.hid s1
 have S2 := Lib.hid s2
 have HNL := Lib.hid hnl
 clear h1 h2 s1 s2 hnl hml hln hlm hlb hK2 HK h5 h6
 go_enter Try.func5, Try.ntmps5
 go_wp2_with (first
  | (go_at_call 9; refine (mpawake_any _).mono ?_; rintro e w1 ⟨rfl, hb⟩; replace HE := Lib.hid (HE.out.up hb); replace HZ := Lib.hid (HZ.out.up hb); replace HY := Lib.hid (HY.out.up hb); replace HX := Lib.hid (HX.out.up hb); have hsq := hB.size; rw [HS0.out] at hsq; replace hB := hB.trans (hb.mono hsq); clear hb hsq c0 c1 c2 c3 c4 lt; obtain ⟨c0, c1, c2, c3, c4, lt⟩ := HE.out)
  | (go_at_call 10; (with_reducible refine (HFW.out _).mono ?_); rintro e w1 ⟨rfl, hb⟩; replace HE := Lib.hid (HE.out.up hb); replace HZ := Lib.hid (HZ.out.up hb); replace HY := Lib.hid (HY.out.up hb); replace HX := Lib.hid (HX.out.up hb); have hsq := hB.size; rw [HS0.out] at hsq; replace hB := hB.trans (hb.mono hsq); clear hb hsq c0 c1 c2 c3 c4 lt; obtain ⟨c0, c1, c2, c3, c4, lt⟩ := HE.out)
  | (at_builtin; refine wpList_app_bals rfl (.tmp 22) (.tmp 23) 36 rfl _ 71 i0 16 Try.underlying36 hi hz1 hz2 hz3 (by omega) _ [] rfl (OwnB.empty (Nat.le_refl _)) C k cb b HLK.out rfl (HX.out.up (below_alloc_new _)) (by first | (simp; done) | (simp; omega)) (by simp) ?_; intro v5 w5 ho5 hg5 hb5; obtain ⟨A5, c5, hv5, hI5⟩ := ho5.out.slb; rw [List.nil_append, HLK.out] at hv5; rw [List.nil_append] at hI5; subst hv5; have HI5 := Lib.hid hI5; have hb := (below_alloc_new _).trans hb5; replace HE := Lib.hid (HE.out.up hb); replace HZ := Lib.hid (HZ.out.up hb); replace HY := Lib.hid (HY.out.up hb); replace HX := Lib.hid (HX.out.up hb); have hsq := hB.size; rw [HS0.out] at hsq; replace hB := hB.trans (hb.mono hsq); clear hb hsq hb5 hg5 ho5 hI5 c0 c1 c2 c3 c4 lt; obtain ⟨c0, c1, c2, c3, c4, lt⟩ := HE.out)
  | (go_at_call 18; (with_reducible refine (H1.out _ _ _ HZ.out HY.out HI5.out).mono ?_); rintro e w6 ⟨v6, rfl, hs6, hb⟩; obtain ⟨A6, c6, hv6, hI6⟩ := hs6; rw [HNL.out] at hv6; subst hv6; have HI6 := Lib.hid hI6; replace HI5 := Lib.hid (HI5.out.up hb); replace HE := Lib.hid (HE.out.up hb); replace HZ := Lib.hid (HZ.out.up hb); replace HY := Lib.hid (HY.out.up hb); replace HX := Lib.hid (HX.out.up hb); have hsq := hB.size; rw [HS0.out] at hsq; replace hB := hB.trans (hb.mono hsq); clear hb hsq hI6 c0 c1 c2 c3 c4 lt; obtain ⟨c0, c1, c2, c3, c4, lt⟩ := HE.out)
  | (go_at_call 19; (with_reducible refine (H2.out _ HZ.out HY.out HX.out).mono ?_); rintro e w7 ⟨v7, rfl, hs7, hb⟩; obtain ⟨A7, c7, hv7, hI7⟩ := hs7; rw [HNL.out] at hv7; subst hv7; have HI7 := Lib.hid hI7; replace HI5 := Lib.hid (HI5.out.up hb); replace HI6 := Lib.hid (HI6.out.up hb); replace HE := Lib.hid (HE.out.up hb); replace HZ := Lib.hid (HZ.out.up hb); replace HY := Lib.hid (HY.out.up hb); replace HX := Lib.hid (HX.out.up hb); have hsq := hB.size; rw [HS0.out] at hsq; replace hB := hB.trans (hb.mono hsq); clear hb hsq hI7 c0 c1 c2 c3 c4 lt; obtain ⟨c0, c1, c2, c3, c4, lt⟩ := HE.out)
  | (go_at_call 20; first
   | ((with_reducible refine (S1.out _ _ _ _ _ HI6.out HI7.out).mono ?_); rintro e w8 ⟨rfl, hb⟩; replace HI5 := Lib.hid (HI5.out.up hb); replace HX := Lib.hid (HX.out.up hb); have hsq := hB.size; rw [HS0.out] at hsq; replace hB := hB.trans (hb.mono hsq); clear hb hsq)
   | ((with_reducible refine (S2.out _ _ _ _ _ HI5.out HX.out).mono ?_); rintro e w9 ⟨rfl, hb⟩; have hsq := hB.size; rw [HS0.out] at hsq; replace hB := hB.trans (hb.mono hsq); clear hb hsq)))
 go_ret
 exact ⟨rfl, by first | exact hB | (rw [HS0.out]; exact hB)⟩
def msF (A : Option Addr) (n c : Nat) (C D A6 : Option Addr) (k cc k2 cd nl c6 s0 t : Nat) (S : Int) : List (Nat × AS.Fact) := [(46, AS.Fact.is (.slice C (k : Nat) cc)), (47, AS.Fact.is (.slice A6 (nl : Nat) c6)), (48, AS.Fact.is (.int .i64 (t : Int))), (49, AS.Fact.is (.int .i64 S)), (50, AS.Fact.is (.pointer (some ⟨s0, 2, none⟩))), (51, AS.Fact.is (.slice A (n : Nat) c)), (52, AS.Fact.is (.slice D (k2 : Nat) cd)), (53, AS.Fact.is (.int .i64 (t : Int))), (54, AS.Fact.is (.int .i64 S)), (55, AS.Fact.is (.bool false))]
set_option maxRecDepth 20000 in
set_option maxHeartbeats 6400000 in
theorem law_mpsum (nm cur : ByteArray) (A : Option Addr) (n c : Nat) (L : List Acc) (B : Option Addr) (m d : Nat) (K : List Lnk) (jt : Bool) (C : Option Addr) (k cc : Nat) (Lc : List Acc) (D : Option Addr) (k2 cd : Nat) (b : List Bal) (w : World) (hk : EntK w A n L B m K) (hlen : Lc.length = k) (hxc : AccAt w C Lc) (hlen2 : b.length = k2) (hx : BalAt w D b) (hwb : ∀ y ∈ b, (Lit.int .i64 y.acct).wf = true) :
  Calls Try.prog 6 #[entV nm cur A n c B m d jt, .slice C k cc, .slice D k2 cd] w fun e w' => e = .returned (.bool true) ∧ Below w.heap.size w w' := by
 have hB := below_alloc_new (w := w) (.cells #[.string nm, .string cur, .slice A n c, .slice B m d, .bool jt] 25)
 have HE := Lib.hid (eb_new w 25 nm cur A n c B m d jt)
 have HZ := Lib.hid (hk.hz.up hB)
 have HY := Lib.hid (hk.hy.up hB)
 have hfw := fun w => rfew9_any nm cur A n c B m d jt w
 have hfq := fewB_is (nm := nm) (cur := cur) (n := n) (m := m)
 generalize fewB nm cur n m = fb at *
 have HX := Lib.hid (hx.up hB)
 have HXC := Lib.hid (hxc.up hB)
 obtain ⟨s0, hs0⟩ : ∃ s0, w.heap.size = s0 := ⟨_, rfl⟩
 rw [hs0] at hB
 have HS0 := Lib.hid hs0
 have HFW := Lib.hid hfw
 have HK := Lib.hid hk
 have HLK := Lib.hid hlen
 have HLK2 := Lib.hid hlen2
 have HWB := Lib.hid hwb
 clear hk hfw hs0 hx hxc hlen hlen2 hwb
 obtain ⟨c0, c1, c2, c3, c4, lt⟩ := HE.out
 cases fb
 ·clear hfq HK
  go_enter Try.func6, Try.ntmps6
  go_wp2_with (first
   | (go_at_call 9; refine (mpawake_any _).mono ?_; rintro e w1 ⟨rfl, hb⟩; replace HE := Lib.hid (HE.out.up hb); replace HZ := Lib.hid (HZ.out.up hb); replace HY := Lib.hid (HY.out.up hb); replace HX := Lib.hid (HX.out.up hb); replace HXC := Lib.hid (HXC.out.up hb); have hsq := hB.size; rw [HS0.out] at hsq; replace hB := hB.trans (hb.mono hsq); clear hb hsq c0 c1 c2 c3 c4 lt; obtain ⟨c0, c1, c2, c3, c4, lt⟩ := HE.out)
   | (go_at_call 10; (with_reducible refine (HFW.out _).mono ?_); rintro e w1 ⟨rfl, hb⟩; replace HE := Lib.hid (HE.out.up hb); replace HZ := Lib.hid (HZ.out.up hb); replace HY := Lib.hid (HY.out.up hb); replace HX := Lib.hid (HX.out.up hb); replace HXC := Lib.hid (HXC.out.up hb); have hsq := hB.size; rw [HS0.out] at hsq; replace hB := hB.trans (hb.mono hsq); clear hb hsq c0 c1 c2 c3 c4 lt; obtain ⟨c0, c1, c2, c3, c4, lt⟩ := HE.out))
  go_ret
  exact ⟨rfl, by first | exact hB | (rw [HS0.out]; exact hB)⟩
 obtain ⟨h5, h6⟩ := hfq rfl
 clear hfq
 rcases Nat.lt_or_ge 60 k with hk6 | hk6
 ·have ek : decide ((60 : Int) < (k : Int)) = true := decide_eq_true (by omega)
  clear HK hk6 h5 h6
  go_enter Try.func6, Try.ntmps6
  go_wp2_with (first
   | (go_at_call 9; refine (mpawake_any _).mono ?_; rintro e w1 ⟨rfl, hb⟩; replace HE := Lib.hid (HE.out.up hb); replace HZ := Lib.hid (HZ.out.up hb); replace HY := Lib.hid (HY.out.up hb); replace HX := Lib.hid (HX.out.up hb); replace HXC := Lib.hid (HXC.out.up hb); have hsq := hB.size; rw [HS0.out] at hsq; replace hB := hB.trans (hb.mono hsq); clear hb hsq c0 c1 c2 c3 c4 lt; obtain ⟨c0, c1, c2, c3, c4, lt⟩ := HE.out)
   | (go_at_call 10; (with_reducible refine (HFW.out _).mono ?_); rintro e w1 ⟨rfl, hb⟩; replace HE := Lib.hid (HE.out.up hb); replace HZ := Lib.hid (HZ.out.up hb); replace HY := Lib.hid (HY.out.up hb); replace HX := Lib.hid (HX.out.up hb); replace HXC := Lib.hid (HXC.out.up hb); have hsq := hB.size; rw [HS0.out] at hsq; replace hB := hB.trans (hb.mono hsq); clear hb hsq c0 c1 c2 c3 c4 lt; obtain ⟨c0, c1, c2, c3, c4, lt⟩ := HE.out))
  go_ret
  exact ⟨rfl, by first | exact hB | (rw [HS0.out]; exact hB)⟩
 have ek : decide ((60 : Int) < (k : Int)) = false := decide_eq_false (by omega)
 rcases Nat.lt_or_ge 60 k2 with hk7 | hk7
 ·have ek2 : decide ((60 : Int) < (k2 : Int)) = true := decide_eq_true (by omega)
  clear HK hk6 hk7 h5 h6
  go_enter Try.func6, Try.ntmps6
  go_wp2_with (first
   | (go_at_call 9; refine (mpawake_any _).mono ?_; rintro e w1 ⟨rfl, hb⟩; replace HE := Lib.hid (HE.out.up hb); replace HZ := Lib.hid (HZ.out.up hb); replace HY := Lib.hid (HY.out.up hb); replace HX := Lib.hid (HX.out.up hb); replace HXC := Lib.hid (HXC.out.up hb); have hsq := hB.size; rw [HS0.out] at hsq; replace hB := hB.trans (hb.mono hsq); clear hb hsq c0 c1 c2 c3 c4 lt; obtain ⟨c0, c1, c2, c3, c4, lt⟩ := HE.out)
   | (go_at_call 10; (with_reducible refine (HFW.out _).mono ?_); rintro e w1 ⟨rfl, hb⟩; replace HE := Lib.hid (HE.out.up hb); replace HZ := Lib.hid (HZ.out.up hb); replace HY := Lib.hid (HY.out.up hb); replace HX := Lib.hid (HX.out.up hb); replace HXC := Lib.hid (HXC.out.up hb); have hsq := hB.size; rw [HS0.out] at hsq; replace hB := hB.trans (hb.mono hsq); clear hb hsq c0 c1 c2 c3 c4 lt; obtain ⟨c0, c1, c2, c3, c4, lt⟩ := HE.out))
  go_ret
  exact ⟨rfl, by first | exact hB | (rw [HS0.out]; exact hB)⟩
 have ek2 : decide ((60 : Int) < (k2 : Int)) = false := decide_eq_false (by omega)
 have hK2 := HK.out
 have hln : L.length ≤ 1000 := by have := hK2.ln; omega
 have hlm : K.length ≤ 1000 := by have := hK2.lm; omega
 have hlc : Lc.length ≤ 1000 := by have := HLK.out; omega
 have hlb : b.length ≤ 1000 := by have := HLK2.out; omega
 have h1 := fun w h h' h'' => cmove9_any nm cur A c L B d K jt D cd b 100 w h h' h'' hln hlm hlb hK2.wa hK2.wl HWB.out
 have h2 := fun w h h' h'' => rval9_any nm cur A c L B d K jt C cc Lc w h h' h'' hln hlm hlc
 rw [hK2.ln, hK2.lm, HLK2.out] at h1
 rw [hK2.ln, hK2.lm, HLK.out] at h2
 have H2 := Lib.hid h2
 clear h2
 have hmv := mvB_is (L := L) (K := K) (c := Lc)
 generalize mvB L K Lc = q at *
 cases q
 ·clear h1 hmv hK2 HK hln hlm hlb hlc h5 h6 hk6 hk7
  go_enter Try.func6, Try.ntmps6
  go_wp2_with (first
   | (go_at_call 9; refine (mpawake_any _).mono ?_; rintro e w1 ⟨rfl, hb⟩; replace HE := Lib.hid (HE.out.up hb); replace HZ := Lib.hid (HZ.out.up hb); replace HY := Lib.hid (HY.out.up hb); replace HX := Lib.hid (HX.out.up hb); replace HXC := Lib.hid (HXC.out.up hb); have hsq := hB.size; rw [HS0.out] at hsq; replace hB := hB.trans (hb.mono hsq); clear hb hsq c0 c1 c2 c3 c4 lt; obtain ⟨c0, c1, c2, c3, c4, lt⟩ := HE.out)
   | (go_at_call 10; (with_reducible refine (HFW.out _).mono ?_); rintro e w1 ⟨rfl, hb⟩; replace HE := Lib.hid (HE.out.up hb); replace HZ := Lib.hid (HZ.out.up hb); replace HY := Lib.hid (HY.out.up hb); replace HX := Lib.hid (HX.out.up hb); replace HXC := Lib.hid (HXC.out.up hb); have hsq := hB.size; rw [HS0.out] at hsq; replace hB := hB.trans (hb.mono hsq); clear hb hsq c0 c1 c2 c3 c4 lt; obtain ⟨c0, c1, c2, c3, c4, lt⟩ := HE.out)
   | (go_at_call 12; (with_reducible refine (H2.out _ HZ.out HY.out HXC.out).mono ?_); rintro e w1 ⟨rfl, hb⟩; replace HE := Lib.hid (HE.out.up hb); replace HZ := Lib.hid (HZ.out.up hb); replace HY := Lib.hid (HY.out.up hb); replace HX := Lib.hid (HX.out.up hb); replace HXC := Lib.hid (HXC.out.up hb); have hsq := hB.size; rw [HS0.out] at hsq; replace hB := hB.trans (hb.mono hsq); clear hb hsq c0 c1 c2 c3 c4 lt; obtain ⟨c0, c1, c2, c3, c4, lt⟩ := HE.out))
  go_ret
  exact ⟨rfl, by first | exact hB | (rw [HS0.out]; exact hB)⟩
 have hMP := hmv.1 rfl
 have hml := moveL_len (L := L) (K := K) (day := 100) (b := b)
 have hbad := fun h => moveL_bad (L := L) (K := K) (day := 100) (b := b) h
 have hsum := fun h => moves_sum (c := Lc) (day := 100) (b := b) hMP h
 have hamt := fun h => moveE_amts (L := L) (K := K) (day := 100) (b := b) h
 generalize moveE L K 100 b = er at *
 generalize moveL L K 100 b = M at *
 obtain ⟨nl, hnl⟩ : ∃ nl, M.length = nl := ⟨_, rfl⟩
 have H1 := Lib.hid h1
 have HNL := Lib.hid hnl
 clear h1 hmv hMP
 by_cases he : er = 0
 ·have e0 : (er != 0) = false := by simp [he]
  obtain ⟨ha1, ha2⟩ := hamt he
  have hs9 := hsum he
  have t1 := fun A6 c6 kind w h h' => mpsum_any C A6 cc c6 Lc M kind w h h' hlc (by omega) ha2
  have t2 := fun kind w h h' => mpsum_any A D c cd L b kind w h h' hln hlb ha1
  simp only [hs9] at t1
  rw [HLK.out, hnl] at t1
  rw [hK2.ln, HLK2.out] at t2
  have T1K := Lib.hid t1
  have T2K := Lib.hid t2
  obtain ⟨G, hG⟩ : ∃ G : Int → Int, kinS L b = G := ⟨_, rfl⟩
  simp only [hG] at T1K T2K
  clear hnl hln hlm hlb hlc hK2 HK h5 h6 hk6 hk7 hml hbad hsum hamt ha1 ha2 hs9 t1 t2 he hG
  go_enter Try.func6, Try.ntmps6
  go_wp2_with (first
   | (go_at_call 9; refine (mpawake_any _).mono ?_; rintro e w1 ⟨rfl, hb⟩; replace HE := Lib.hid (HE.out.up hb); replace HZ := Lib.hid (HZ.out.up hb); replace HY := Lib.hid (HY.out.up hb); replace HX := Lib.hid (HX.out.up hb); replace HXC := Lib.hid (HXC.out.up hb); have hsq := hB.size; rw [HS0.out] at hsq; replace hB := hB.trans (hb.mono hsq); clear hb hsq c0 c1 c2 c3 c4 lt; obtain ⟨c0, c1, c2, c3, c4, lt⟩ := HE.out)
   | (go_at_call 10; (with_reducible refine (HFW.out _).mono ?_); rintro e w1 ⟨rfl, hb⟩; replace HE := Lib.hid (HE.out.up hb); replace HZ := Lib.hid (HZ.out.up hb); replace HY := Lib.hid (HY.out.up hb); replace HX := Lib.hid (HX.out.up hb); replace HXC := Lib.hid (HXC.out.up hb); have hsq := hB.size; rw [HS0.out] at hsq; replace hB := hB.trans (hb.mono hsq); clear hb hsq c0 c1 c2 c3 c4 lt; obtain ⟨c0, c1, c2, c3, c4, lt⟩ := HE.out)
   | (go_at_call 12; (with_reducible refine (H2.out _ HZ.out HY.out HXC.out).mono ?_); rintro e w1 ⟨rfl, hb⟩; replace HE := Lib.hid (HE.out.up hb); replace HZ := Lib.hid (HZ.out.up hb); replace HY := Lib.hid (HY.out.up hb); replace HX := Lib.hid (HX.out.up hb); replace HXC := Lib.hid (HXC.out.up hb); have hsq := hB.size; rw [HS0.out] at hsq; replace hB := hB.trans (hb.mono hsq); clear hb hsq c0 c1 c2 c3 c4 lt; obtain ⟨c0, c1, c2, c3, c4, lt⟩ := HE.out)
   | (go_at_call 18; (with_reducible refine (H1.out _ HZ.out HY.out HX.out).mono ?_); rintro e w6 ⟨v6, rfl, hs6, hb⟩; obtain ⟨A6, c6, hv6, hI6⟩ := hs6; rw [HNL.out] at hv6; subst hv6; have HI6 := Lib.hid hI6; replace HE := Lib.hid (HE.out.up hb); replace HZ := Lib.hid (HZ.out.up hb); replace HY := Lib.hid (HY.out.up hb); replace HX := Lib.hid (HX.out.up hb); replace HXC := Lib.hid (HXC.out.up hb); have hsq := hB.size; rw [HS0.out] at hsq; replace hB := hB.trans (hb.mono hsq); clear hb hsq hI6 c0 c1 c2 c3 c4 lt; obtain ⟨c0, c1, c2, c3, c4, lt⟩ := HE.out))
  rw [HS0.out] at HE ⊢
  clear c0 c1 c2 c3 c4 lt
  go_loopg [9] 6 (fun kx s9 wr => ∃ t : Nat, s9 = .int .i64 t ∧ t ≤ 6 ∧ 6 - t ≤ kx ∧ Hid (EB wr s0 nm cur A n c B m d jt) ∧ Hid (AccAt wr A L) ∧ Hid (AccAt wr C Lc) ∧ Hid (BalAt wr D b) ∧ Hid (BalAt wr A6 M) ∧ Below s0 w wr)
  case atStart => exact ⟨0, rfl, by omega, by omega, HE, HZ, HXC, HX, HI6, hB⟩
  case round =>
   clear HE HZ HXC HX HI6 hB HY
   try clear HE
   obtain ⟨t, rfl, ht, htx, HE, HZ, HXC, HX, HI6, hB⟩ := hrel
   have hsz : s0 ≤ wr.heap.size := by have := hB.size; have := HS0.out; omega
   by_cases htl : t < 6
   ·have htz : decide ((t : Int) ≤ 5) = true := decide_eq_true (by omega)
    have t1 := T1K.out A6 c6 (t : Int)
    have t2 := T2K.out (t : Int)
    obtain ⟨S, hS⟩ : ∃ S, G (t : Int) = S := ⟨_, rfl⟩
    rw [hS] at t1 t2
    have eS : (S != S) = false := by simp
    have T1 := Lib.hid t1
    have T2 := Lib.hid t2
    clear t1 t2 hS
    go_wp2_with fail
    refine AS.region_facts (msF A n c C D A6 k cc k2 cd nl c6 s0 t S) (HNo wr) [[], [], [], [46, 47, 48], [], [50], [], [], [51, 52, 53], [49, 54]] [] [[]] [0, 0, 0, 0, 0, 0, 0, 0, 0, 0] [] (fun u => by simp only [msF, AS.temps, List.map_cons, List.map_nil, fillL, List.setIfInBounds_toArray, List.set_cons_zero, List.set_cons_succ]; rfl) (by kernel_rfl) (by kernel_rfl) (HNo.st wr) (dc_drew (Below.refl _ _)) ?_ ?_
    ·refine AS.sc rfl rfl rfl ?_ ?_
     ·intro k_ u w_ hk_ hJ hF K hK
      clear hF
      go_simp
      exact hK.out _ _ (Below.refl _ _) (rfl) trivial
     refine AS.sc rfl rfl rfl ?_ ?_
     ·intro k_ u w_ hk_ hJ hF K hK
      clear hF
      go_simp
      exact hK.out _ _ (Below.refl _ _) (rfl) trivial
     refine AS.sc rfl rfl rfl ?_ ?_
     ·intro k_ u w_ hk_ hJ hF K hK
      clear hF
      go_simp
      exact hK.out _ _ (Below.refl _ _) (rfl) trivial
     refine AS.sc rfl rfl rfl ?_ ?_
     ·intro k_ u w_ hk_ hJ hF K hK
      have h46 : u 46 = .slice C (k : Nat) cc := AS.facts_get hF 46 (by simp)
      have h47 : u 47 = .slice A6 (nl : Nat) c6 := AS.facts_get hF 47 (by simp)
      have h48 : u 48 = .int .i64 (t : Int) := AS.facts_get hF 48 (by simp)
      clear hF
      simp only [h46, h47, h48] at hK ⊢
      clear h46 h47 h48
      have hz9 := HXC.out.up (hJ : Below wr.heap.size wr w_)
      have hy9 := HI6.out.up (hJ : Below wr.heap.size wr w_)
      go_simp
      refine (T1.out _ hz9 hy9).mono ?_
      rintro e w3 ⟨rfl, hb⟩
      exact hK.out _ _ hb (rfl) trivial
     refine AS.sc rfl rfl rfl ?_ ?_
     ·intro k_ u w_ hk_ hJ hF K hK
      clear hF
      go_simp
      exact hK.out _ _ (Below.refl _ _) (rfl) trivial
     refine AS.sc rfl rfl rfl ?_ ?_
     ·intro k_ u w_ hk_ hJ hF K hK
      have h50 : u 50 = .pointer (some ⟨s0, 2, none⟩) := AS.facts_get hF 50 (by simp)
      clear hF
      simp only [h50] at hK ⊢
      clear h50
      obtain ⟨c0, c1, c2, c3, c4, lt⟩ := HE.out.up (hJ : Below wr.heap.size wr w_)
      go_simp
      exact hK.out _ _ (Below.refl _ _) (rfl) trivial
     refine AS.sc rfl rfl rfl ?_ ?_
     ·intro k_ u w_ hk_ hJ hF K hK
      clear hF
      go_simp
      exact hK.out _ _ (Below.refl _ _) (rfl) trivial
     refine AS.sc rfl rfl rfl ?_ ?_
     ·intro k_ u w_ hk_ hJ hF K hK
      clear hF
      go_simp
      exact hK.out _ _ (Below.refl _ _) (rfl) trivial
     refine AS.sc rfl rfl rfl ?_ ?_
     ·intro k_ u w_ hk_ hJ hF K hK
      have h51 : u 51 = .slice A (n : Nat) c := AS.facts_get hF 51 (by simp)
      have h52 : u 52 = .slice D (k2 : Nat) cd := AS.facts_get hF 52 (by simp)
      have h53 : u 53 = .int .i64 (t : Int) := AS.facts_get hF 53 (by simp)
      clear hF
      simp only [h51, h52, h53] at hK ⊢
      clear h51 h52 h53
      have hz9 := HZ.out.up (hJ : Below wr.heap.size wr w_)
      have hy9 := HX.out.up (hJ : Below wr.heap.size wr w_)
      go_simp
      refine (T2.out _ hz9 hy9).mono ?_
      rintro e w3 ⟨rfl, hb⟩
      exact hK.out _ _ hb (rfl) trivial
     refine AS.sc rfl rfl rfl ?_ ?_
     ·intro k_ u w_ hk_ hJ hF K hK
      have h49 : u 49 = .int .i64 S := AS.facts_get hF 49 (by simp)
      have h54 : u 54 = .int .i64 S := AS.facts_get hF 54 (by simp)
      clear hF
      simp only [h49, h54] at hK ⊢
      clear h49 h54
      go_simp
      exact hK.out _ _ (Below.refl _ _) (rfl) trivial
     exact AS.StepsOk.nil
    ·intro u W9 hJ9 hF
     have h55 : u 55 = .bool false := AS.facts_get hF 55 (by simp [msF, AS.temps])
     have hB9 : Below wr.heap.size wr W9 := hJ9
     clear hF hJ9
     simp only [h55]
     clear h55
     have hB8 := hB.trans (hB9.mono hsz)
     have HE8 := Lib.hid (HE.out.up hB9)
     have HZ8 := Lib.hid (HZ.out.up hB9)
     have HXC8 := Lib.hid (HXC.out.up hB9)
     have HX8 := Lib.hid (HX.out.up hB9)
     have HI8 := Lib.hid (HI6.out.up hB9)
     clear hB9
     go_wp2_with fail
     go_roundg (6 - (t + 1))
     case measure => omega
     case rel => exact ⟨t + 1, by go_num, by omega, by omega, HE8, HZ8, HXC8, HX8, HI8, hB8⟩
   ·have htz : decide ((t : Int) ≤ 5) = false := decide_eq_false (by omega)
    go_wp2_with fail
    go_ret
    exact ⟨rfl, by first | exact hB | (rw [HS0.out]; exact hB)⟩
 ·have e0 : (er != 0) = true := by simp [he]
  have hn0 : nl = 0 := by rw [← hnl, hbad he]; rfl
  subst hn0
  clear hnl hln hlm hlb hlc hK2 HK h5 h6 hk6 hk7 hml hbad hsum hamt he
  go_enter Try.func6, Try.ntmps6
  go_wp2_with (first
   | (go_at_call 9; refine (mpawake_any _).mono ?_; rintro e w1 ⟨rfl, hb⟩; replace HE := Lib.hid (HE.out.up hb); replace HZ := Lib.hid (HZ.out.up hb); replace HY := Lib.hid (HY.out.up hb); replace HX := Lib.hid (HX.out.up hb); replace HXC := Lib.hid (HXC.out.up hb); have hsq := hB.size; rw [HS0.out] at hsq; replace hB := hB.trans (hb.mono hsq); clear hb hsq c0 c1 c2 c3 c4 lt; obtain ⟨c0, c1, c2, c3, c4, lt⟩ := HE.out)
   | (go_at_call 10; (with_reducible refine (HFW.out _).mono ?_); rintro e w1 ⟨rfl, hb⟩; replace HE := Lib.hid (HE.out.up hb); replace HZ := Lib.hid (HZ.out.up hb); replace HY := Lib.hid (HY.out.up hb); replace HX := Lib.hid (HX.out.up hb); replace HXC := Lib.hid (HXC.out.up hb); have hsq := hB.size; rw [HS0.out] at hsq; replace hB := hB.trans (hb.mono hsq); clear hb hsq c0 c1 c2 c3 c4 lt; obtain ⟨c0, c1, c2, c3, c4, lt⟩ := HE.out)
   | (go_at_call 12; (with_reducible refine (H2.out _ HZ.out HY.out HXC.out).mono ?_); rintro e w1 ⟨rfl, hb⟩; replace HE := Lib.hid (HE.out.up hb); replace HZ := Lib.hid (HZ.out.up hb); replace HY := Lib.hid (HY.out.up hb); replace HX := Lib.hid (HX.out.up hb); replace HXC := Lib.hid (HXC.out.up hb); have hsq := hB.size; rw [HS0.out] at hsq; replace hB := hB.trans (hb.mono hsq); clear hb hsq c0 c1 c2 c3 c4 lt; obtain ⟨c0, c1, c2, c3, c4, lt⟩ := HE.out)
   | (go_at_call 18; (with_reducible refine (H1.out _ HZ.out HY.out HX.out).mono ?_); rintro e w6 ⟨v6, rfl, hs6, hb⟩; obtain ⟨A6, c6, hv6, hI6⟩ := hs6; rw [HNL.out] at hv6; subst hv6; have hsq := hB.size; rw [HS0.out] at hsq; replace hB := hB.trans (hb.mono hsq); clear hb hsq hI6))
  go_ret
  exact ⟨rfl, by first | exact hB | (rw [HS0.out]; exact hB)⟩
theorem step_app_lnks {P : Program} {ops : Array Oper} {o : Oper} {a : Act} {tm : Array Value} {w : World} {K : Act → World → Prop} {Q : Exit → Act → World → Prop} {E : Prop} (hgd : o.guard = none) (s x : Operand) (t : TypeId)
  (ho : o.op = .call { callee := .builtin .append, args := #[s, x], argTypes := #[t, t] })
  (base : Nat) (e : TypeId) (i : TypeInfo) (bytes : Nat) (ht : P.underlying t = some (.slice e)) (hi : P.info? e = some i) (hz : i.zero = some (.agg #[.int .i64 0, .int .i64 0, .int .i64 0])) (hsize : i.size = 3) (hby : i.bytes = bytes) (hb8 : bytes ≤ 24)
  (v : Value) (L : List Lnk) (hs : a.eval s = v) (hown : OwnL e w base v L) (X : Option Addr) (m c : Nat) (M : List Lnk) (hm : M.length = m) (hx : a.eval x = .slice X m c) (hX : LnkAt w X M)
  (hlen : L.length + m ≤ 100000000) (hbase : base ≤ w.heap.size)
  (h : ∀ v' w', Hid (OwnL e w' base v' (L ++ M)) → Hid (w.grownBy w' v.ownBlock) → Below base w w' → K (a.put o.dst v') w') :
  if Region.wanted o (yielded ops tm) = true then Oper.wp P o a w K Q else E := by
 subst hm
 have hbb : (L.length + M.length) * bytes ≤ (L.length + M.length) * 24 := Nat.mul_le_mul_left _ hb8
 refine step_append_row hgd s x t ho base e i (.agg #[.int .i64 0, .int .i64 0, .int .i64 0]) 3 bytes ht hi hz hsize hby rfl (by decide) v L.length (L.flatMap celL) hs hown X M.length c (M.flatMap celL) hx (celL_len M) ?_ ?_ (by unfold maxLen; omega) (by omega) hbase ?_
 ·intro h0
  obtain ⟨b, off, rfl, hbw, hcs⟩ := hX h0
  refine ⟨_, rfl, fun j u hj => ?_⟩
  have hjl : j < M.length * 3 := by
   rcases Nat.lt_or_ge j (M.length * 3) with h1 | h1
   ·exact h1
   ·rw [List.getElem?_eq_none (by rw [celL_len]; exact h1)] at hj; cases hj
  have hadd : (⟨b, off, none⟩ : Addr).add j = ⟨b, off + j, none⟩ := by unfold Addr.add; split <;> simp_all
  rw [hadd, ← hj]
  have h3 : j % 3 = 0 ∨ j % 3 = 1 ∨ j % 3 = 2 := by omega
  rcases h3 with h2 | h2 | h2
  ·obtain ⟨q, rfl⟩ : ∃ q, j = q * 3 := ⟨j / 3, by omega⟩
   rw [(celL_get M q (by omega)).1]
   exact (hcs q (by omega)).c0
  ·obtain ⟨q, rfl⟩ : ∃ q, j = q * 3 + 1 := ⟨j / 3, by omega⟩
   rw [(celL_get M q (by omega)).2.1, ← Nat.add_assoc]
   exact (hcs q (by omega)).c1
  ·obtain ⟨q, rfl⟩ : ∃ q, j = q * 3 + 2 := ⟨j / 3, by omega⟩
   rw [(celL_get M q (by omega)).2.2, ← Nat.add_assoc]
   exact (hcs q (by omega)).c2
 ·intro u hu
  obtain ⟨d, _, hu⟩ := List.mem_flatMap.1 hu
  simp [celL] at hu
  rcases hu with rfl | rfl | rfl <;> rfl
 ·intro v' w' h2 h3
  refine h v' w' (Lib.hid ?_) h3 ((Below.refl base w).grown h3.out hbase (fun j hj => (World.ownsRow.lt hown j hj).1))
  have h4 := h2.out
  rw [← List.flatMap_append, ← List.length_append] at h4
  exact h4
structure CB (w : World) (g : Nat) (nm cur : ByteArray) (A : Option Addr) (n c : Nat) (B : Option Addr) (m d : Nat) (jt : Bool) (code day : Int) : Prop where
 c0 : w.cell? ⟨g, 0, none⟩ = some (.string nm)
 c1 : w.cell? ⟨g, 1, none⟩ = some (.string cur)
 c2 : w.cell? ⟨g, 2, none⟩ = some (.slice A n c)
 c3 : w.cell? ⟨g, 3, none⟩ = some (.slice B m d)
 c4 : w.cell? ⟨g, 4, none⟩ = some (.bool jt)
 c5 : w.cell? ⟨g, 5, none⟩ = some (.int .i64 code)
 c6 : w.cell? ⟨g, 6, none⟩ = some (.int .i64 day)
 lt : g < w.heap.size
section
variable {w w' : World} {g : Nat} {nm cur : ByteArray} {A : Option Addr} {n c : Nat} {B : Option Addr} {m d : Nat} {jt : Bool} {code day : Int}
theorem CB.blk (h : CB w g nm cur A n c B m d jt code day) (hk : w'.heap[g]? = w.heap[g]?) : CB w' g nm cur A n c B m d jt code day := by
 refine ⟨(World.cell?_of_block hk).trans h.c0, (World.cell?_of_block hk).trans h.c1, (World.cell?_of_block hk).trans h.c2, (World.cell?_of_block hk).trans h.c3, (World.cell?_of_block hk).trans h.c4, (World.cell?_of_block hk).trans h.c5, (World.cell?_of_block hk).trans h.c6, ?_⟩
 have hlt := h.lt
 rcases Nat.lt_or_ge g w'.heap.size with h1 | h1
 ·exact h1
 ·rw [Array.getElem?_eq_none h1, Array.getElem?_eq_getElem hlt] at hk; cases hk
theorem CB.up (h : CB w g nm cur A n c B m d jt code day) (hb : Below w.heap.size w w') : CB w' g nm cur A n c B m d jt code day := h.blk (hb.block g h.lt)
end
theorem cb_new (w : World) (t : TypeId) (nm cur : ByteArray) (A : Option Addr) (n c : Nat) (B : Option Addr) (m d : Nat) (jt : Bool) (code day : Int) :
  CB (w.alloc (.cells #[.string nm, .string cur, .slice A n c, .slice B m d, .bool jt, .int .i64 code, .int .i64 day] t)) w.heap.size nm cur A n c B m d jt code day := by
 refine ⟨?_, ?_, ?_, ?_, ?_, ?_, ?_, by simp⟩ <;> (simp only [World.cell?]; rw [heap_alloc_new]; rfl)
theorem lb_o9 (w : World) (t : TypeId) (x : Lnk) (o : Obj) : LB ((w.alloc (.cells #[.int .i64 x.frm, .int .i64 x.tgt, .int .i64 x.since] t)).alloc o) w.heap.size x := (lb_new w t x).up (below_alloc_new o)
theorem lb_n9 (w : World) (t : TypeId) (x : Lnk) (o : Obj) : LB ((w.alloc o).alloc (.cells #[.int .i64 x.frm, .int .i64 x.tgt, .int .i64 x.since] t)) (w.heap.size + 1) x := by
 have h := lb_new (w.alloc o) t x
 have e : (w.alloc o).heap.size = w.heap.size + 1 := by simp
 rwa [e] at h
theorem LB.drew9 {w : World} {g : Nat} {x : Lnk} (h : LB w g x) : LB w.drew g x := ⟨⟨h.cells.c0, h.cells.c1, h.cells.c2⟩, h.lt⟩
theorem LB.grown {w w' : World} {g : Nat} {x : Lnk} {r : Option Nat} (hg : w.grownBy w' r) (h : LB w g x) (hne : some g ≠ r) : LB w' g x :=
 ⟨⟨hg.cell h.cells.c0 hne, hg.cell h.cells.c1 hne, hg.cell h.cells.c2 hne⟩, Nat.lt_of_lt_of_le h.lt hg.size⟩
theorem LB.row {w : World} {g : Nat} {x : Lnk} (h : LB w g x) : LnkAt w (some ⟨g, 0, none⟩) [x] := fun _ => ⟨g, 0, rfl, h.lt, fun i hi => by
 obtain rfl : i = 0 := by simpa using hi
 exact h.cells⟩
theorem ownL_second (w : World) (o : Obj) (e : TypeId) : OwnL e ((w.alloc o).alloc (.cells #[] e)) w.heap.size (.slice (some ⟨w.heap.size + 1, 0, none⟩) 0 0) [] := by
 have h := OwnL.empty (e := e) (base := w.heap.size) (w := w.alloc o) (by simp)
 have e1 : (w.alloc o).heap.size = w.heap.size + 1 := by simp
 rwa [e1] at h
theorem OwnL.far {e : TypeId} {w : World} {base : Nat} {v : Value} {L : List Lnk} (h : OwnL e w base v L) {g : Nat} (hg : g < base) (i : Nat) (u : Value) : OwnL e (w.setCell ⟨g, i, none⟩ u) base v L :=
 h.blk fun j hj => Below.heap_setCell _ _ _ _ (by show j ≠ g; have := (h.lt hj).1; omega)
theorem EF.put3 {w : World} {g : Nat} {nm cur : ByteArray} {A : Option Addr} {n c : Nat} {B : Option Addr} {m d : Nat} {jt : Bool} (h : EF w g nm cur A n c B m d jt) (B2 : Option Addr) (m2 d2 : Nat) :
  EF (w.setCell ⟨g, 3, none⟩ (.slice B2 m2 d2)) g nm cur A n c B2 m2 d2 jt := by
 have hc : ∀ (i : Nat) (u : Value), w.cell? ⟨g, i, none⟩ = some u → (w.setCell ⟨g, 3, none⟩ (.slice B2 m2 d2)).cell? ⟨g, i, none⟩ = if i = 3 then some (.slice B2 m2 d2) else some u := by
  intro i u hu
  split
  ·rename_i e; subst e; exact World.cell?_setCell_same w _ _ hu
  ·rename_i e; rw [World.cell?_setCell_other w _ _ _ (fun h => e (by injection h with _ h2; exact h2.symm))]; exact hu
 obtain ⟨⟨e0, e1, e2, e3, e4, lt⟩, hf⟩ := h
 exact ⟨⟨hc 0 _ e0, hc 1 _ e1, hc 2 _ e2, hc 3 _ e3, hc 4 _ e4, by simpa [World.setCell] using lt⟩, fun i => by rw [World.frozen?_setCell]; exact hf i⟩
theorem later_same {L : List Acc} {K : List Lnk} {code d1 d2 : Int} (h : ∀ i, i < (datesL K).length → decide ((datesL K).getD i 0 ≤ d1) = decide ((datesL K).getD i 0 ≤ d2)) (h1 : atE L K code d1 ≠ 2) (h2 : atE L K code d2 ≠ 2) :
  atV L K code d2 = atV L K code d1 ∧ atE L K code d2 = atE L K code d1 := by
 have hs : ∀ l ∈ K, decide (l.since ≤ d1) = decide (l.since ≤ d2) := fun l hl => by
  have hin : l.since ∈ datesL K := (keysL_is.2 _).2 (List.mem_map.2 ⟨l, hl, rfl⟩)
  obtain ⟨i, hi, e⟩ := mem_getD_acc (d := (0 : Int)) hin
  have := h i hi
  rwa [e] at this
 have h3 := at_same (L := L) (code := code) (atO_same (fltL_same (code := code) hs)) ((atE_two h1).trans (atE_two h2).symm)
 exact ⟨h3.1.symm, h3.2.symm⟩
theorem later_link {L : List Acc} {K : List Lnk} {code day : Int} {l : Lnk} (h : day < l.since) : atV L (K ++ [l]) code day = atV L K code day ∧ atE L (K ++ [l]) code day = atE L K code day :=
 at_same (atO_same (fltL_later h)) rfl
set_option maxRecDepth 20000 in
set_option maxHeartbeats 6400000 in
theorem law_mplater (nm cur : ByteArray) (A : Option Addr) (n c : Nat) (L : List Acc) (B : Option Addr) (m d : Nat) (K : List Lnk) (jt : Bool) (code day : Int) (l : Lnk) (other : Int) (w : World) (hk : EntK w A n L B m K) (_hwl : WfL l) :
    Calls Try.prog 7 #[caseV nm cur A n c B m d jt code day, lnkV l, .int .i64 other] w fun e w' => e = .returned (.bool true) ∧ Below w.heap.size w w' := by
  have hB0 := below_alloc_new (w := w) (.cells #[.string nm, .string cur, .slice A n c, .slice B m d, .bool jt, .int .i64 code, .int .i64 day] 44)
  have hup := below_alloc_new (w := w.alloc (.cells #[.string nm, .string cur, .slice A n c, .slice B m d, .bool jt, .int .i64 code, .int .i64 day] 44)) (.cells #[.int .i64 l.frm, .int .i64 l.tgt, .int .i64 l.since] 46)
  have hB := below_more hB0 hup
  have e1 : (w.alloc (.cells #[.string nm, .string cur, .slice A n c, .slice B m d, .bool jt, .int .i64 code, .int .i64 day] 44)).heap.size = w.heap.size + 1 := by simp
  have HC := Lib.hid ((cb_new w 44 nm cur A n c B m d jt code day).up hup)
  have hl9 := lb_new (w.alloc (.cells #[.string nm, .string cur, .slice A n c, .slice B m d, .bool jt, .int .i64 code, .int .i64 day] 44)) 46 l
  rw [e1] at hl9
  have HL := Lib.hid hl9
  have HZ0 := Lib.hid hk.hz
  have HY0 := Lib.hid hk.hy
  have hfw := fun w => rfew9_any nm cur A n c B m d jt w
  have hfq := fewB_is (nm := nm) (cur := cur) (n := n) (m := m)
  generalize fewB nm cur n m = fb at *
  obtain ⟨s0, hs0⟩ : ∃ s0, w.heap.size = s0 := ⟨_, rfl⟩
  rw [hs0] at hB
  have HS0 := Lib.hid hs0
  have HFW := Lib.hid hfw
  have HK := Lib.hid hk
  clear hk hfw hs0 hB0 hup e1 hl9
  obtain ⟨c0, c1, c2, c3, c4, c5, c6, lt⟩ := HC.out
  obtain ⟨⟨l0, l1, l2⟩, llt⟩ := HL.out
  simp only [Nat.zero_add] at l1 l2
  cases fb
  · clear hfq HK
    go_enter Try.func7, Try.ntmps7
    go_wp2_with (first
      | (go_at_call 9; refine (mpawake_any _).mono ?_; rintro e w1 ⟨rfl, hb⟩; replace HC := Lib.hid (HC.out.up hb); replace HL := Lib.hid (HL.out.up hb); have hsq := hB.size; rw [HS0.out] at hsq; replace hB := hB.trans (hb.mono hsq); clear l0 l1 l2 llt; obtain ⟨⟨l0, l1, l2⟩, llt⟩ := HL.out; simp only [Nat.zero_add] at l1 l2; clear hb hsq c0 c1 c2 c3 c4 c5 c6 lt; obtain ⟨c0, c1, c2, c3, c4, c5, c6, lt⟩ := HC.out)
      | (go_at_call 10; (with_reducible refine (HFW.out _).mono ?_); rintro e w1 ⟨rfl, hb⟩; replace HC := Lib.hid (HC.out.up hb); replace HL := Lib.hid (HL.out.up hb); have hsq := hB.size; rw [HS0.out] at hsq; replace hB := hB.trans (hb.mono hsq); clear l0 l1 l2 llt; obtain ⟨⟨l0, l1, l2⟩, llt⟩ := HL.out; simp only [Nat.zero_add] at l1 l2; clear hb hsq c0 c1 c2 c3 c4 c5 c6 lt; obtain ⟨c0, c1, c2, c3, c4, c5, c6, lt⟩ := HC.out))
    go_ret
    exact ⟨rfl, by first | exact hB | (rw [HS0.out]; exact hB)⟩
  obtain ⟨h5, h6⟩ := hfq rfl
  clear hfq
  rcases Nat.lt_or_ge 59 m with hm6 | hm6
  · have ek : decide ((59 : Int) < (m : Int)) = true := decide_eq_true (by omega)
    clear HK hm6 h5 h6
    go_enter Try.func7, Try.ntmps7
    go_wp2_with (first
      | (go_at_call 9; refine (mpawake_any _).mono ?_; rintro e w1 ⟨rfl, hb⟩; replace HC := Lib.hid (HC.out.up hb); replace HL := Lib.hid (HL.out.up hb); have hsq := hB.size; rw [HS0.out] at hsq; replace hB := hB.trans (hb.mono hsq); clear l0 l1 l2 llt; obtain ⟨⟨l0, l1, l2⟩, llt⟩ := HL.out; simp only [Nat.zero_add] at l1 l2; clear hb hsq c0 c1 c2 c3 c4 c5 c6 lt; obtain ⟨c0, c1, c2, c3, c4, c5, c6, lt⟩ := HC.out)
      | (go_at_call 10; (with_reducible refine (HFW.out _).mono ?_); rintro e w1 ⟨rfl, hb⟩; replace HC := Lib.hid (HC.out.up hb); replace HL := Lib.hid (HL.out.up hb); have hsq := hB.size; rw [HS0.out] at hsq; replace hB := hB.trans (hb.mono hsq); clear l0 l1 l2 llt; obtain ⟨⟨l0, l1, l2⟩, llt⟩ := HL.out; simp only [Nat.zero_add] at l1 l2; clear hb hsq c0 c1 c2 c3 c4 c5 c6 lt; obtain ⟨c0, c1, c2, c3, c4, c5, c6, lt⟩ := HC.out))
    go_ret
    exact ⟨rfl, by first | exact hB | (rw [HS0.out]; exact hB)⟩
  have ek : decide ((59 : Int) < (m : Int)) = false := decide_eq_false (by omega)
  have hK2 := HK.out
  have hln : L.length ≤ 1000 := by have := hK2.ln; omega
  have hlm : K.length ≤ 1000 := by have := hK2.lm; omega
  have hlk : (K ++ [l]).length ≤ 1000 := by rw [List.length_append]; have := hK2.lm; simp; omega
  have h1 := fun w h h' => cat9_any nm cur A c L B d K jt code day w h h' hln hlm
  have h1o := fun w h h' => cat9_any nm cur A c L B d K jt code other w h h' hln hlm
  have h1y := fun B2 d2 w h h' => cat9_any nm cur A c L B2 d2 (K ++ [l]) jt code day w h h' hln hlk
  have h4 := fun w h => cdates_any nm cur A c n B d K jt w h hlm hK2.wl
  have hfin := later_same (L := L) (K := K) (code := code) (d1 := day) (d2 := other)
  have hlat := later_link (L := L) (K := K) (code := code) (day := day) (l := l)
  have hlk1 : (K ++ [l]).length = m + 1 := by rw [List.length_append, hK2.lm]; rfl
  rw [hK2.ln, hK2.lm] at h1 h1o
  rw [hK2.ln, hlk1] at h1y
  rw [hK2.lm] at h4
  have HKL := Lib.hid hK2.lm
  have hdl := datesL_len (K := K)
  generalize datesL K = D at *
  obtain ⟨nd, hnd⟩ : ∃ nd, D.length = nd := ⟨_, rfl⟩
  rw [hnd] at hfin hdl
  have hnd1 : nd ≤ 1000 := by omega
  have HND := Lib.hid hnd
  obtain ⟨iL, hiL, hL0, hL1, hL2⟩ := info_parts infoL
  obtain ⟨te, hte⟩ : ∃ te, atV L K code day = te := ⟨_, rfl⟩
  obtain ⟨ee, hee⟩ : ∃ ee, atE L K code day = ee := ⟨_, rfl⟩
  obtain ⟨te2, hte2⟩ : ∃ te2, atV L K code other = te2 := ⟨_, rfl⟩
  obtain ⟨ee2, hee2⟩ : ∃ ee2, atE L K code other = ee2 := ⟨_, rfl⟩
  rw [hte, hee] at h1 hfin hlat
  rw [hte2, hee2] at h1o hfin
  have H1 := Lib.hid h1
  have H1O := Lib.hid h1o
  have H4 := Lib.hid h4
  have HFIN := Lib.hid hfin
  have ett : (te != te) = false := by simp
  have eee : (ee != ee) = false := by simp
  clear h1 h1o h4 hfin hnd hdl hte hee hte2 hee2 hln hlm hlk hlk1 hK2 HK h5 h6
  by_cases hls : day < l.since
  · have el : decide (day < l.since) = true := decide_eq_true hls
    rw [(hlat hls).1, (hlat hls).2] at h1y
    have H1Y := Lib.hid h1y
    clear h1y hls hlat
    go_enter Try.func7, Try.ntmps7
    go_wp2_with (first
      | (go_at_call 9; refine (mpawake_any _).mono ?_; rintro e w1 ⟨rfl, hb⟩; replace HC := Lib.hid (HC.out.up hb); replace HL := Lib.hid (HL.out.up hb); have hsq := hB.size; rw [HS0.out] at hsq; replace hB := hB.trans (hb.mono hsq); clear l0 l1 l2 llt; obtain ⟨⟨l0, l1, l2⟩, llt⟩ := HL.out; simp only [Nat.zero_add] at l1 l2; clear hb hsq c0 c1 c2 c3 c4 c5 c6 lt; obtain ⟨c0, c1, c2, c3, c4, c5, c6, lt⟩ := HC.out)
      | (go_at_call 10; (with_reducible refine (HFW.out _).mono ?_); rintro e w1 ⟨rfl, hb⟩; replace HC := Lib.hid (HC.out.up hb); replace HL := Lib.hid (HL.out.up hb); have hsq := hB.size; rw [HS0.out] at hsq; replace hB := hB.trans (hb.mono hsq); clear l0 l1 l2 llt; obtain ⟨⟨l0, l1, l2⟩, llt⟩ := HL.out; simp only [Nat.zero_add] at l1 l2; clear hb hsq c0 c1 c2 c3 c4 c5 c6 lt; obtain ⟨c0, c1, c2, c3, c4, c5, c6, lt⟩ := HC.out)
      | (go_at_call 13; (with_reducible refine (H1.out _ (HZ0.out.up (by rw [HS0.out]; exact hB)) (HY0.out.up (by rw [HS0.out]; exact hB))).mono ?_); rintro e w1 ⟨rfl, hb⟩; replace HC := Lib.hid (HC.out.up hb); replace HL := Lib.hid (HL.out.up hb); have hsq := hB.size; rw [HS0.out] at hsq; replace hB := hB.trans (hb.mono hsq); clear l0 l1 l2 llt; obtain ⟨⟨l0, l1, l2⟩, llt⟩ := HL.out; simp only [Nat.zero_add] at l1 l2; clear hb hsq c0 c1 c2 c3 c4 c5 c6 lt; obtain ⟨c0, c1, c2, c3, c4, c5, c6, lt⟩ := HC.out))
    rw [HS0.out]
    rename World => w3
    obtain ⟨g9, hg9⟩ : ∃ g9, w3.heap.size = g9 := ⟨_, rfl⟩
    have hb9 := below_alloc_new (w := w3) (.cells #[.string nm, .string cur, .slice A n c, .slice B m d, .bool jt] 25)
    have hef := ef_new w3 25 nm cur A n c B m d jt
    have hgl : g9 < (w3.alloc (.cells #[.string nm, .string cur, .slice A n c, .slice B m d, .bool jt] 25)).heap.size := by simp; omega
    have HCW := Lib.hid (HC.out.up hb9)
    have HLW := Lib.hid (HL.out.up hb9)
    have hsq := hB.size
    rw [HS0.out] at hsq
    have HLT3 : Hid (s0 < w3.heap.size ∧ s0 + 1 < w3.heap.size) := Lib.hid (by have h1 := HC.out.lt; have h2 := HL.out.lt; rw [HS0.out] at h1 h2; exact ⟨h1, h2⟩)
    have hBW := hB.trans (hb9.mono hsq)
    rw [hg9] at hef HLT3 ⊢
    generalize World.alloc w3 _ = W7 at *
    have HEF := Lib.hid hef
    have HGL := Lib.hid hgl
    have HY7 := Lib.hid (HY0.out.up (by rw [HS0.out]; exact hBW))
    have HLT : Hid (s0 < W7.heap.size ∧ s0 + 1 < W7.heap.size) := Lib.hid ⟨by have := HLT3.out; omega, by have := HLT3.out; omega⟩
    have hlt3 := HLT3.out
    have hS0 : W7.cell? ⟨s0, 3, none⟩ = some (.slice B m d) ∧ W7.cell? ⟨s0 + 1, 0, none⟩ = some (.int .i64 l.frm) ∧ W7.cell? ⟨s0 + 1, 1, none⟩ = some (.int .i64 l.tgt) ∧ W7.cell? ⟨s0 + 1, 2, none⟩ = some (.int .i64 l.since) := by have h1 := HCW.out; have h2 := HLW.out.cells; rw [HS0.out] at h1 h2; exact ⟨h1.c3, h2.c0, by simpa using h2.c1, by simpa using h2.c2⟩
    clear hb9 hef hgl hsq hg9 c0 c1 c2 c3 c4 c5 c6 lt l0 l1 l2 llt HC HL hB
    go_region_held_law (fun w' => w'.cell? ⟨s0, 3, none⟩ = some (.slice B m d) ∧ w'.cell? ⟨s0 + 1, 0, none⟩ = some (.int .i64 l.frm) ∧ w'.cell? ⟨s0 + 1, 1, none⟩ = some (.int .i64 l.tgt) ∧ w'.cell? ⟨s0 + 1, 2, none⟩ = some (.int .i64 l.since)) (first | exact hS7 | exact hS6 | exact hS5 | exact hS0 | go_keep)
      (first
      | (refine step_app_lnks rfl (.tmp 46) (.tmp 49) 23 rfl W7.heap.size 46 iL 24 Try.underlying23 hiL hL0 hL1 hL2 (by omega) (.slice (some ⟨W7.heap.size, 0, none⟩) 0 0) [] rfl (by first | exact OwnL.empty (Nat.le_refl _) | exact (OwnL.empty (Nat.le_refl _)).alloc _) B m _ K HKL.out rfl (by first | exact HY7.out.up (dc_drew (below_alloc_new _)) | exact HY7.out.up (dc_drew (below_new (below_alloc_new _) _))) (by first | (simp; done) | (simp; omega)) (by first | (simp; done) | (simp; omega)) ?_
         intro v5 w5 ho5 hg5 hb5
         have HB5 : Below W7.heap.size W7 w5 := by first | exact (dc_drew (below_alloc_new _)).trans hb5 | exact (dc_drew (below_new (below_alloc_new _) _)).trans hb5
         have hS5 : w5.cell? ⟨s0, 3, none⟩ = some (.slice B m d) ∧ w5.cell? ⟨s0 + 1, 0, none⟩ = some (.int .i64 l.frm) ∧ w5.cell? ⟨s0 + 1, 1, none⟩ = some (.int .i64 l.tgt) ∧ w5.cell? ⟨s0 + 1, 2, none⟩ = some (.int .i64 l.since) := ⟨(HB5.cell (p := ⟨s0, 3, none⟩) HLT.out.1).trans hS0.1, (HB5.cell (p := ⟨s0 + 1, 0, none⟩) HLT.out.2).trans hS0.2.1, (HB5.cell (p := ⟨s0 + 1, 1, none⟩) HLT.out.2).trans hS0.2.2.1, (HB5.cell (p := ⟨s0 + 1, 2, none⟩) HLT.out.2).trans hS0.2.2.2⟩
         try (have hbx : LB w5 (W7.heap.size + 1) l := by first | exact LB.grown hg5.out (lb_n9 _ _ _ _) (by simp [Value.ownBlock]) | exact LB.grown hg5.out (lb_n9 _ _ _ _).drew9 (by simp [Value.ownBlock]))
         clear hb5 hg5)
      | (refine step_app_lnks rfl (.tmp 46) (.tmp 49) 23 rfl W7.heap.size 46 iL 24 Try.underlying23 hiL hL0 hL1 hL2 (by omega) (.slice (some ⟨W7.heap.size + 1, 0, none⟩) 0 0) [] rfl (by first | exact ownL_second _ _ _) B m _ K HKL.out rfl (by first | exact HY7.out.up (dc_drew (below_alloc_new _)) | exact HY7.out.up (dc_drew (below_new (below_alloc_new _) _))) (by first | (simp; done) | (simp; omega)) (by first | (simp; done) | (simp; omega)) ?_
         intro v5 w5 ho5 hg5 hb5
         have HB5 : Below W7.heap.size W7 w5 := by first | exact (dc_drew (below_alloc_new _)).trans hb5 | exact (dc_drew (below_new (below_alloc_new _) _)).trans hb5
         have hS5 : w5.cell? ⟨s0, 3, none⟩ = some (.slice B m d) ∧ w5.cell? ⟨s0 + 1, 0, none⟩ = some (.int .i64 l.frm) ∧ w5.cell? ⟨s0 + 1, 1, none⟩ = some (.int .i64 l.tgt) ∧ w5.cell? ⟨s0 + 1, 2, none⟩ = some (.int .i64 l.since) := ⟨(HB5.cell (p := ⟨s0, 3, none⟩) HLT.out.1).trans hS0.1, (HB5.cell (p := ⟨s0 + 1, 0, none⟩) HLT.out.2).trans hS0.2.1, (HB5.cell (p := ⟨s0 + 1, 1, none⟩) HLT.out.2).trans hS0.2.2.1, (HB5.cell (p := ⟨s0 + 1, 2, none⟩) HLT.out.2).trans hS0.2.2.2⟩
         try (have hbx : LB w5 (W7.heap.size) l := by first | exact LB.grown hg5.out (lb_o9 _ _ _ _) (by simp [Value.ownBlock]) | exact LB.grown hg5.out (lb_o9 _ _ _ _).drew9 (by simp [Value.ownBlock]))
         clear hb5 hg5)
      | (refine step_app_lnks rfl (.tmp 50) (.tmp 52) 23 rfl W7.heap.size 46 iL 24 Try.underlying23 hiL hL0 hL1 hL2 (by omega) v5 K rfl (by first | exact ho5.out | exact ho5.out.alloc _) (some ⟨_, 0, none⟩) 1 _ [l] rfl rfl (by first | exact hbx.row | exact (lb_new _ _ l).row) (by rw [HKL.out]; omega) (by have := HB5.size; first | exact this | (simp; omega)) ?_
         intro v6 w6 ho6 hg6 hb6
         have HB6 : Below W7.heap.size W7 w6 := by first | exact HB5.trans hb6 | exact (below_new HB5 _).trans hb6
         have hS6 : w6.cell? ⟨s0, 3, none⟩ = some (.slice B m d) ∧ w6.cell? ⟨s0 + 1, 0, none⟩ = some (.int .i64 l.frm) ∧ w6.cell? ⟨s0 + 1, 1, none⟩ = some (.int .i64 l.tgt) ∧ w6.cell? ⟨s0 + 1, 2, none⟩ = some (.int .i64 l.since) := ⟨(HB6.cell (p := ⟨s0, 3, none⟩) HLT.out.1).trans hS0.1, (HB6.cell (p := ⟨s0 + 1, 0, none⟩) HLT.out.2).trans hS0.2.1, (HB6.cell (p := ⟨s0 + 1, 1, none⟩) HLT.out.2).trans hS0.2.2.1, (HB6.cell (p := ⟨s0 + 1, 2, none⟩) HLT.out.2).trans hS0.2.2.2⟩
         obtain ⟨A6, c6', hv6, hA6⟩ := ho6.out.reads
         rw [List.length_append, HKL.out] at hv6
         have hv6' : v6 = .slice A6 (m + 1) c6' := hv6
         have HE6 := Lib.hid (HEF.out.blk (HB6.block g9 HGL.out))
         subst hv6'
         obtain ⟨⟨f0, f1, f2, f3, f4, flt⟩, ffz⟩ := HE6.out
         have ff3 := ffz 3
         have hS7 : (w6.setCell ⟨g9, 3, none⟩ (.slice A6 (m + 1) c6')).cell? ⟨s0, 3, none⟩ = some (.slice B m d) ∧ (w6.setCell ⟨g9, 3, none⟩ (.slice A6 (m + 1) c6')).cell? ⟨s0 + 1, 0, none⟩ = some (.int .i64 l.frm) ∧ (w6.setCell ⟨g9, 3, none⟩ (.slice A6 (m + 1) c6')).cell? ⟨s0 + 1, 1, none⟩ = some (.int .i64 l.tgt) ∧ (w6.setCell ⟨g9, 3, none⟩ (.slice A6 (m + 1) c6')).cell? ⟨s0 + 1, 2, none⟩ = some (.int .i64 l.since) := ⟨(World.cell?_setCell_other w6 _ _ _ (fun e => by injection e with e1; omega)).trans hS6.1, (World.cell?_setCell_other w6 _ _ _ (fun e => by injection e with e1; omega)).trans hS6.2.1, (World.cell?_setCell_other w6 _ _ _ (fun e => by injection e with e1; omega)).trans hS6.2.2.1, (World.cell?_setCell_other w6 _ _ _ (fun e => by injection e with e1; omega)).trans hS6.2.2.2⟩
         clear hb6 hg6 hv6))
    all_goals
      have hB8 : Below s0 w (w6.setCell ⟨g9, 3, none⟩ (.slice A6 (m + 1) c6')) := Below.setCell (p := ⟨g9, 3, none⟩) (hBW.trans (HB6.mono (Nat.le_of_lt HLT.out.1))) (by show s0 ≤ g9; omega) _
      have HE8 := Lib.hid (HE6.out.put3 A6 (m + 1) c6')
      have HC8 : Hid (CB (w6.setCell ⟨g9, 3, none⟩ (.slice A6 (m + 1) c6')) s0 nm cur A n c B m d jt code day) := Lib.hid (by
        have h1 := HCW.out
        rw [HS0.out] at h1
        exact (h1.up HB6).blk (Below.heap_setCell _ _ _ _ (by show s0 ≠ g9; omega)))
      have HK8 : Hid (LnkAt (w6.setCell ⟨g9, 3, none⟩ (.slice A6 (m + 1) c6')) A6 (K ++ [l])) := Lib.hid (by
        have h1 := (ho6.out.far HGL.out 3 (.slice A6 (m + 1) c6')).reads
        obtain ⟨A9, c9, e9, h9⟩ := h1
        rw [List.length_append, HKL.out] at e9
        have e9' : (.slice A6 (m + 1) c6' : Value) = .slice A9 (m + 1) c9 := e9
        cases e9'
        exact h9)
      clear hS5 hS6 hS7 f0 f1 f2 f3 f4 flt ffz ff3 HE6 ho5 ho6 HB5 HB6 HCW HLW
      rename World => w6
      generalize World.setCell w6 _ _ = W8 at *
      obtain ⟨⟨f0, f1, f2, f3, f4, flt⟩, ffz⟩ := HE8.out
      obtain ⟨c0, c1, c2, c3, c4, c5, c6, lt⟩ := HC8.out
      go_wp2_with (go_at_call 13; (with_reducible refine (H1Y.out _ _ _ (HZ0.out.up (by rw [HS0.out]; exact hB8)) HK8.out).mono ?_); rintro e w9 ⟨rfl, hb⟩; have HC := Lib.hid (HC8.out.up hb); have hsq := hB8.size; rw [HS0.out] at hsq; have hB := hB8.trans (hb.mono hsq); clear hb hsq c0 c1 c2 c3 c4 c5 c6 lt; obtain ⟨c0, c1, c2, c3, c4, c5, c6, lt⟩ := HC.out)
      clear HC8 hB8 f0 f1 f2 f3 f4 flt ffz HE8 HK8
      clear c0 c1 c2 c3 c4 c5 c6 lt
      obtain ⟨c0, c1, c2, c3, c4, c5, c6, lt⟩ := HC.out
      go_wp2_with (go_at_call 16; (with_reducible refine (H4.out _ (HY0.out.up (by rw [HS0.out]; exact hB))).mono ?_); rintro e w8 ⟨v8, rfl, hs8, hb⟩; obtain ⟨A8, c8, hv8, hI8⟩ := hs8; rw [HND.out] at hv8; subst hv8; have HI8 := Lib.hid hI8; replace HC := Lib.hid (HC.out.up hb); have hsq := hB.size; rw [HS0.out] at hsq; replace hB := hB.trans (hb.mono hsq); clear hI8; clear hb hsq c0 c1 c2 c3 c4 c5 c6 lt; obtain ⟨c0, c1, c2, c3, c4, c5, c6, lt⟩ := HC.out)
      clear c0 c1 c2 c3 c4 c5 c6 lt
      go_loopg [13] nd (fun kx s13 wr => ∃ t : Nat, s13 = .int .i64 t ∧ t ≤ nd ∧ nd - t ≤ kx ∧ Hid (∀ i, i < t → decide (D.getD i 0 ≤ day) = decide (D.getD i 0 ≤ other)) ∧ Hid (CB wr s0 nm cur A n c B m d jt code day) ∧ Hid (IntsAt .i64 wr A8 D) ∧ Below s0 w wr)
      case atStart => exact ⟨0, rfl, by omega, by omega, Lib.hid (fun i h => absurd h (by omega)), HC, HI8, hB⟩
      case round =>
        clear HC HI8 hB
        try clear HC
        try clear HC
        rename World => wr
        obtain ⟨t, rfl, ht, htx, HALL, HC, HI8, hB⟩ := hrel
        obtain ⟨c0, c1, c2, c3, c4, c5, c6, lt⟩ := HC.out
        by_cases htl : t < nd
        · have htz : (t : Int) < (nd : Int) := by omega
          obtain ⟨b8, off8, e8, hb8, hc8⟩ := HI8.out (by rw [HND.out]; omega)
          cases e8
          have p0 := hc8 t (by rw [HND.out]; exact htl)
          obtain ⟨x, hx⟩ : ∃ x, D.getD t 0 = x := ⟨_, rfl⟩
          rw [hx] at p0
          have HXE := Lib.hid hx
          obtain ⟨q1, hq1⟩ : ∃ q1, decide (x ≤ day) = q1 := ⟨_, rfl⟩
          obtain ⟨q2, hq2⟩ : ∃ q2, decide (x ≤ other) = q2 := ⟨_, rfl⟩
          have HQ1 := Lib.hid hq1
          have HQ2 := Lib.hid hq2
          clear hc8 hx
          cases q1 <;> cases q2
          all_goals
            go_wp2_with fail
            go_quiet (fail)
            have hB9 := below_drewN hB nq
            have HC9 := Lib.hid (HC.out.up (below_drewN (Below.refl _ _) nq))
            have HI9 := Lib.hid (HI8.out.up (below_drewN (Below.refl _ _) nq))
            clear HC HI8 hB c0 c1 c2 c3 c4 c5 c6 lt p0
            generalize World.drewN _ nq = W8 at *
            go_wp2_with fail
            first
              | (have HA2 : Hid (∀ i, i < t + 1 → decide (D.getD i 0 ≤ day) = decide (D.getD i 0 ≤ other)) := Lib.hid (fun i hi => by
                   rcases Nat.lt_or_ge i t with h9 | h9
                   · exact HALL.out i h9
                   · obtain rfl : i = t := by omega
                     rw [HXE.out, HQ1.out, HQ2.out])
                 go_roundg (nd - (t + 1))
                 case measure => omega
                 case rel => exact ⟨t + 1, by go_num, by omega, by omega, HA2, HC9, HI9, hB9⟩)
              | (go_ret
                 exact ⟨rfl, by first | exact hB9 | (rw [HS0.out]; exact hB9)⟩)
        · obtain rfl : t = nd := by omega
          have htz : ¬ (t : Int) < (t : Int) := by omega
          have hfin := HFIN.out HALL.out
          by_cases he1 : ee = 2
          · have e1 : (ee == 2) = true := by simp [he1]
            clear hfin
            go_wp2_with (go_at_call 13; (with_reducible refine (H1O.out _ (HZ0.out.up (by rw [HS0.out]; exact hB)) (HY0.out.up (by rw [HS0.out]; exact hB))).mono ?_); rintro e w9 ⟨rfl, hb⟩; have hsq := hB.size; rw [HS0.out] at hsq; replace hB := hB.trans (hb.mono hsq); clear hb hsq)
            go_ret
            exact ⟨rfl, by first | exact hB | (rw [HS0.out]; exact hB)⟩
          · have e1 : (ee == 2) = false := by simp [he1]
            by_cases he2 : ee2 = 2
            · have e2 : (ee2 == 2) = true := by simp [he2]
              clear hfin
              go_wp2_with (go_at_call 13; (with_reducible refine (H1O.out _ (HZ0.out.up (by rw [HS0.out]; exact hB)) (HY0.out.up (by rw [HS0.out]; exact hB))).mono ?_); rintro e w9 ⟨rfl, hb⟩; have hsq := hB.size; rw [HS0.out] at hsq; replace hB := hB.trans (hb.mono hsq); clear hb hsq)
              go_ret
              exact ⟨rfl, by first | exact hB | (rw [HS0.out]; exact hB)⟩
            · have e2 : (ee2 == 2) = false := by simp [he2]
              obtain ⟨hv, he⟩ := hfin he1 he2
              have e3 : (te == te2) = true := by simp [hv]
              have e4 : (ee == ee2) = true := by simp [he]
              clear hfin hv he
              go_wp2_with (go_at_call 13; (with_reducible refine (H1O.out _ (HZ0.out.up (by rw [HS0.out]; exact hB)) (HY0.out.up (by rw [HS0.out]; exact hB))).mono ?_); rintro e w9 ⟨rfl, hb⟩; have hsq := hB.size; rw [HS0.out] at hsq; replace hB := hB.trans (hb.mono hsq); clear hb hsq)
              go_ret
              exact ⟨rfl, by first | exact hB | (rw [HS0.out]; exact hB)⟩
  · have el : decide (day < l.since) = false := decide_eq_false hls
    clear h1y hls hlat
    go_enter Try.func7, Try.ntmps7
    go_wp2_with (first
      | (go_at_call 9; refine (mpawake_any _).mono ?_; rintro e w1 ⟨rfl, hb⟩; replace HC := Lib.hid (HC.out.up hb); replace HL := Lib.hid (HL.out.up hb); have hsq := hB.size; rw [HS0.out] at hsq; replace hB := hB.trans (hb.mono hsq); clear l0 l1 l2 llt; obtain ⟨⟨l0, l1, l2⟩, llt⟩ := HL.out; simp only [Nat.zero_add] at l1 l2; clear hb hsq c0 c1 c2 c3 c4 c5 c6 lt; obtain ⟨c0, c1, c2, c3, c4, c5, c6, lt⟩ := HC.out)
      | (go_at_call 10; (with_reducible refine (HFW.out _).mono ?_); rintro e w1 ⟨rfl, hb⟩; replace HC := Lib.hid (HC.out.up hb); replace HL := Lib.hid (HL.out.up hb); have hsq := hB.size; rw [HS0.out] at hsq; replace hB := hB.trans (hb.mono hsq); clear l0 l1 l2 llt; obtain ⟨⟨l0, l1, l2⟩, llt⟩ := HL.out; simp only [Nat.zero_add] at l1 l2; clear hb hsq c0 c1 c2 c3 c4 c5 c6 lt; obtain ⟨c0, c1, c2, c3, c4, c5, c6, lt⟩ := HC.out)
      | (go_at_call 13; (with_reducible refine (H1.out _ (HZ0.out.up (by rw [HS0.out]; exact hB)) (HY0.out.up (by rw [HS0.out]; exact hB))).mono ?_); rintro e w1 ⟨rfl, hb⟩; replace HC := Lib.hid (HC.out.up hb); replace HL := Lib.hid (HL.out.up hb); have hsq := hB.size; rw [HS0.out] at hsq; replace hB := hB.trans (hb.mono hsq); clear l0 l1 l2 llt; obtain ⟨⟨l0, l1, l2⟩, llt⟩ := HL.out; simp only [Nat.zero_add] at l1 l2; clear hb hsq c0 c1 c2 c3 c4 c5 c6 lt; obtain ⟨c0, c1, c2, c3, c4, c5, c6, lt⟩ := HC.out))
    rw [HS0.out]
    have HCS := HC
    rw [HS0.out] at HCS
    clear c0 c1 c2 c3 c4 c5 c6 lt l0 l1 l2 llt HC HL
    have HC := HCS
    clear HCS
    obtain ⟨c0, c1, c2, c3, c4, c5, c6, lt⟩ := HC.out
    clear c0 c1 c2 c3 c4 c5 c6 lt
    obtain ⟨c0, c1, c2, c3, c4, c5, c6, lt⟩ := HC.out
    go_wp2_with (go_at_call 16; (with_reducible refine (H4.out _ (HY0.out.up (by rw [HS0.out]; exact hB))).mono ?_); rintro e w8 ⟨v8, rfl, hs8, hb⟩; obtain ⟨A8, c8, hv8, hI8⟩ := hs8; rw [HND.out] at hv8; subst hv8; have HI8 := Lib.hid hI8; replace HC := Lib.hid (HC.out.up hb); have hsq := hB.size; rw [HS0.out] at hsq; replace hB := hB.trans (hb.mono hsq); clear hI8; clear hb hsq c0 c1 c2 c3 c4 c5 c6 lt; obtain ⟨c0, c1, c2, c3, c4, c5, c6, lt⟩ := HC.out)
    clear c0 c1 c2 c3 c4 c5 c6 lt
    go_loopg [13] nd (fun kx s13 wr => ∃ t : Nat, s13 = .int .i64 t ∧ t ≤ nd ∧ nd - t ≤ kx ∧ Hid (∀ i, i < t → decide (D.getD i 0 ≤ day) = decide (D.getD i 0 ≤ other)) ∧ Hid (CB wr s0 nm cur A n c B m d jt code day) ∧ Hid (IntsAt .i64 wr A8 D) ∧ Below s0 w wr)
    case atStart => exact ⟨0, rfl, by omega, by omega, Lib.hid (fun i h => absurd h (by omega)), HC, HI8, hB⟩
    case round =>
      clear HC HI8 hB
      try clear HC
      try clear HC
      rename World => wr
      obtain ⟨t, rfl, ht, htx, HALL, HC, HI8, hB⟩ := hrel
      obtain ⟨c0, c1, c2, c3, c4, c5, c6, lt⟩ := HC.out
      by_cases htl : t < nd
      · have htz : (t : Int) < (nd : Int) := by omega
        obtain ⟨b8, off8, e8, hb8, hc8⟩ := HI8.out (by rw [HND.out]; omega)
        cases e8
        have p0 := hc8 t (by rw [HND.out]; exact htl)
        obtain ⟨x, hx⟩ : ∃ x, D.getD t 0 = x := ⟨_, rfl⟩
        rw [hx] at p0
        have HXE := Lib.hid hx
        obtain ⟨q1, hq1⟩ : ∃ q1, decide (x ≤ day) = q1 := ⟨_, rfl⟩
        obtain ⟨q2, hq2⟩ : ∃ q2, decide (x ≤ other) = q2 := ⟨_, rfl⟩
        have HQ1 := Lib.hid hq1
        have HQ2 := Lib.hid hq2
        clear hc8 hx
        cases q1 <;> cases q2
        all_goals
          go_wp2_with fail
          go_quiet (fail)
          have hB9 := below_drewN hB nq
          have HC9 := Lib.hid (HC.out.up (below_drewN (Below.refl _ _) nq))
          have HI9 := Lib.hid (HI8.out.up (below_drewN (Below.refl _ _) nq))
          clear HC HI8 hB c0 c1 c2 c3 c4 c5 c6 lt p0
          generalize World.drewN _ nq = W8 at *
          go_wp2_with fail
          first
            | (have HA2 : Hid (∀ i, i < t + 1 → decide (D.getD i 0 ≤ day) = decide (D.getD i 0 ≤ other)) := Lib.hid (fun i hi => by
                 rcases Nat.lt_or_ge i t with h9 | h9
                 · exact HALL.out i h9
                 · obtain rfl : i = t := by omega
                   rw [HXE.out, HQ1.out, HQ2.out])
               go_roundg (nd - (t + 1))
               case measure => omega
               case rel => exact ⟨t + 1, by go_num, by omega, by omega, HA2, HC9, HI9, hB9⟩)
            | (go_ret
               exact ⟨rfl, by first | exact hB9 | (rw [HS0.out]; exact hB9)⟩)
      · obtain rfl : t = nd := by omega
        have htz : ¬ (t : Int) < (t : Int) := by omega
        have hfin := HFIN.out HALL.out
        by_cases he1 : ee = 2
        · have e1 : (ee == 2) = true := by simp [he1]
          clear hfin
          go_wp2_with (go_at_call 13; (with_reducible refine (H1O.out _ (HZ0.out.up (by rw [HS0.out]; exact hB)) (HY0.out.up (by rw [HS0.out]; exact hB))).mono ?_); rintro e w9 ⟨rfl, hb⟩; have hsq := hB.size; rw [HS0.out] at hsq; replace hB := hB.trans (hb.mono hsq); clear hb hsq)
          go_ret
          exact ⟨rfl, by first | exact hB | (rw [HS0.out]; exact hB)⟩
        · have e1 : (ee == 2) = false := by simp [he1]
          by_cases he2 : ee2 = 2
          · have e2 : (ee2 == 2) = true := by simp [he2]
            clear hfin
            go_wp2_with (go_at_call 13; (with_reducible refine (H1O.out _ (HZ0.out.up (by rw [HS0.out]; exact hB)) (HY0.out.up (by rw [HS0.out]; exact hB))).mono ?_); rintro e w9 ⟨rfl, hb⟩; have hsq := hB.size; rw [HS0.out] at hsq; replace hB := hB.trans (hb.mono hsq); clear hb hsq)
            go_ret
            exact ⟨rfl, by first | exact hB | (rw [HS0.out]; exact hB)⟩
          · have e2 : (ee2 == 2) = false := by simp [he2]
            obtain ⟨hv, he⟩ := hfin he1 he2
            have e3 : (te == te2) = true := by simp [hv]
            have e4 : (ee == ee2) = true := by simp [he]
            clear hfin hv he
            go_wp2_with (go_at_call 13; (with_reducible refine (H1O.out _ (HZ0.out.up (by rw [HS0.out]; exact hB)) (HY0.out.up (by rw [HS0.out]; exact hB))).mono ?_); rintro e w9 ⟨rfl, hb⟩; have hsq := hB.size; rw [HS0.out] at hsq; replace hB := hB.trans (hb.mono hsq); clear hb hsq)
            go_ret
            exact ⟨rfl, by first | exact hB | (rw [HS0.out]; exact hB)⟩
open Go.RowKit
theorem rev_getD {K : List Lnk} {t : Nat} (h : t < K.length) : K.reverse.getD t lnk0 = K.getD (K.length - 1 - t) lnk0 := by
 rw [List.getD_eq_getElem?_getD, List.getElem?_reverse h, List.getD_eq_getElem?_getD]
set_option maxRecDepth 20000 in
set_option maxHeartbeats 6400000 in
theorem law_mporder (nm cur : ByteArray) (A : Option Addr) (n c : Nat) (L : List Acc) (B : Option Addr) (m d : Nat) (K : List Lnk) (jt : Bool) (code day : Int) (C : Option Addr) (k cc : Nat) (Lc : List Acc) (D : Option Addr) (k2 cd : Nat) (b : List Bal) (w : World) (hk : EntK w A n L B m K) (hlen : Lc.length = k) (hxc : AccAt w C Lc) (hlen2 : b.length = k2) (hx : BalAt w D b) (hwb : ∀ y ∈ b, (Lit.int .i64 y.acct).wf = true) :
    Calls Try.prog 8 #[caseV nm cur A n c B m d jt code day, .slice C k cc, .slice D k2 cd] w fun e w' => e = .returned (.bool true) ∧ Below w.heap.size w w' := by
  have hB := below_alloc_new (w := w) (.cells #[.string nm, .string cur, .slice A n c, .slice B m d, .bool jt, .int .i64 code, .int .i64 day] 44)
  have HC := Lib.hid (cb_new w 44 nm cur A n c B m d jt code day)
  have HZ0 := Lib.hid hk.hz
  have HY0 := Lib.hid hk.hy
  have HX0 := Lib.hid hxc
  have HD0 := Lib.hid hx
  have hfw := fun w => rfew9_any nm cur A n c B m d jt w
  have hfq := fewB_is (nm := nm) (cur := cur) (n := n) (m := m)
  generalize fewB nm cur n m = fb at *
  obtain ⟨s0, hs0⟩ : ∃ s0, w.heap.size = s0 := ⟨_, rfl⟩
  rw [hs0] at hB
  have HS0 := Lib.hid hs0
  have HFW := Lib.hid hfw
  have HK := Lib.hid hk
  have HWB := Lib.hid hwb
  clear hk hfw hs0 hxc hx hwb
  obtain ⟨c0, c1, c2, c3, c4, c5, c6, lt⟩ := HC.out
  cases fb
  · clear hfq HK
    go_enter Try.func8, Try.ntmps8
    go_wp2_with (first
      | (go_at_call 9; refine (mpawake_any _).mono ?_; rintro e w1 ⟨rfl, hb⟩; replace HC := Lib.hid (HC.out.up hb); have hsq := hB.size; rw [HS0.out] at hsq; replace hB := hB.trans (hb.mono hsq); clear hb hsq c0 c1 c2 c3 c4 c5 c6 lt; obtain ⟨c0, c1, c2, c3, c4, c5, c6, lt⟩ := HC.out)
      | (go_at_call 10; (with_reducible refine (HFW.out _).mono ?_); rintro e w1 ⟨rfl, hb⟩; replace HC := Lib.hid (HC.out.up hb); have hsq := hB.size; rw [HS0.out] at hsq; replace hB := hB.trans (hb.mono hsq); clear hb hsq c0 c1 c2 c3 c4 c5 c6 lt; obtain ⟨c0, c1, c2, c3, c4, c5, c6, lt⟩ := HC.out))
    go_ret
    exact ⟨rfl, by first | exact hB | (rw [HS0.out]; exact hB)⟩
  obtain ⟨h5, h6⟩ := hfq rfl
  clear hfq
  rcases Nat.lt_or_ge 60 k with hk6 | hk6
  · have ek : decide ((60 : Int) < (k : Int)) = true := decide_eq_true (by omega)
    clear HK hk6 h5 h6
    go_enter Try.func8, Try.ntmps8
    go_wp2_with (first
      | (go_at_call 9; refine (mpawake_any _).mono ?_; rintro e w1 ⟨rfl, hb⟩; replace HC := Lib.hid (HC.out.up hb); have hsq := hB.size; rw [HS0.out] at hsq; replace hB := hB.trans (hb.mono hsq); clear hb hsq c0 c1 c2 c3 c4 c5 c6 lt; obtain ⟨c0, c1, c2, c3, c4, c5, c6, lt⟩ := HC.out)
      | (go_at_call 10; (with_reducible refine (HFW.out _).mono ?_); rintro e w1 ⟨rfl, hb⟩; replace HC := Lib.hid (HC.out.up hb); have hsq := hB.size; rw [HS0.out] at hsq; replace hB := hB.trans (hb.mono hsq); clear hb hsq c0 c1 c2 c3 c4 c5 c6 lt; obtain ⟨c0, c1, c2, c3, c4, c5, c6, lt⟩ := HC.out))
    go_ret
    exact ⟨rfl, by first | exact hB | (rw [HS0.out]; exact hB)⟩
  have ek : decide ((60 : Int) < (k : Int)) = false := decide_eq_false (by omega)
  rcases Nat.lt_or_ge 60 k2 with hk7 | hk7
  · have ek2 : decide ((60 : Int) < (k2 : Int)) = true := decide_eq_true (by omega)
    clear HK hk6 hk7 h5 h6
    go_enter Try.func8, Try.ntmps8
    go_wp2_with (first
      | (go_at_call 9; refine (mpawake_any _).mono ?_; rintro e w1 ⟨rfl, hb⟩; replace HC := Lib.hid (HC.out.up hb); have hsq := hB.size; rw [HS0.out] at hsq; replace hB := hB.trans (hb.mono hsq); clear hb hsq c0 c1 c2 c3 c4 c5 c6 lt; obtain ⟨c0, c1, c2, c3, c4, c5, c6, lt⟩ := HC.out)
      | (go_at_call 10; (with_reducible refine (HFW.out _).mono ?_); rintro e w1 ⟨rfl, hb⟩; replace HC := Lib.hid (HC.out.up hb); have hsq := hB.size; rw [HS0.out] at hsq; replace hB := hB.trans (hb.mono hsq); clear hb hsq c0 c1 c2 c3 c4 c5 c6 lt; obtain ⟨c0, c1, c2, c3, c4, c5, c6, lt⟩ := HC.out))
    go_ret
    exact ⟨rfl, by first | exact hB | (rw [HS0.out]; exact hB)⟩
  have ek2 : decide ((60 : Int) < (k2 : Int)) = false := decide_eq_false (by omega)
  have hK2 := HK.out
  have hln : L.length ≤ 1000 := by have := hK2.ln; omega
  have hlm : K.length ≤ 1000 := by have := hK2.lm; omega
  have hlr : K.reverse.length ≤ 1000 := by rw [List.length_reverse]; exact hlm
  have hlc : Lc.length ≤ 1000 := by omega
  have hlb : b.length ≤ 1000 := by omega
  have hwr : ∀ l ∈ K.reverse, WfL l := fun l hl => hK2.wl l (List.mem_reverse.1 hl)
  have h2 := fun w h h' h'' => rval9_any nm cur A c L B d K jt C cc Lc w h h' h'' hln hlm hlc
  have hv := fun B2 d2 w h h' h'' => cval9_any nm cur A c L B2 d2 K.reverse jt C cc Lc w h h' h'' hln hlr hlc hwr
  have h1 := fun w h h' => cat9_any nm cur A c L B d K jt code day w h h' hln hlm
  have h1y := fun B2 d2 w h h' => cat9_any nm cur A c L B2 d2 K.reverse jt code day w h h' hln hlr
  have h3 := fun w h h' h'' => cmove9_any nm cur A c L B d K jt D cd b day w h h' h'' hln hlm hlb hK2.wa hK2.wl HWB.out
  have h3y := fun B2 d2 w h h' h'' => cmove9_any nm cur A c L B2 d2 K.reverse jt D cd b day w h h' h'' hln hlr hlb hK2.wa hwr HWB.out
  have hrl : K.reverse.length = m := by rw [List.length_reverse, hK2.lm]
  rw [hK2.ln, hK2.lm, hlen] at h2
  rw [hK2.ln, hrl, hlen] at hv
  rw [hK2.ln, hK2.lm] at h1
  rw [hK2.ln, hrl] at h1y
  rw [hK2.ln, hK2.lm, hlen2] at h3
  rw [hK2.ln, hrl, hlen2] at h3y
  have hmv := mvB_is (L := L) (K := K) (c := Lc)
  have hmr := mvB_is (L := L) (K := K.reverse) (c := Lc)
  generalize mvB L K Lc = q at *
  cases q
  · have H2 := Lib.hid h2
    clear h1 h1y h2 h3 h3y hv hmv hmr hK2 HK hln hlm hlr hlc hlb hwr hrl h5 h6 hk6 hk7
    go_enter Try.func8, Try.ntmps8
    go_wp2_with (first
      | (go_at_call 9; refine (mpawake_any _).mono ?_; rintro e w1 ⟨rfl, hb⟩; replace HC := Lib.hid (HC.out.up hb); have hsq := hB.size; rw [HS0.out] at hsq; replace hB := hB.trans (hb.mono hsq); clear hb hsq c0 c1 c2 c3 c4 c5 c6 lt; obtain ⟨c0, c1, c2, c3, c4, c5, c6, lt⟩ := HC.out)
      | (go_at_call 10; (with_reducible refine (HFW.out _).mono ?_); rintro e w1 ⟨rfl, hb⟩; replace HC := Lib.hid (HC.out.up hb); have hsq := hB.size; rw [HS0.out] at hsq; replace hB := hB.trans (hb.mono hsq); clear hb hsq c0 c1 c2 c3 c4 c5 c6 lt; obtain ⟨c0, c1, c2, c3, c4, c5, c6, lt⟩ := HC.out)
      | (go_at_call 12; (with_reducible refine (H2.out _ (HZ0.out.up (by rw [HS0.out]; exact hB)) (HY0.out.up (by rw [HS0.out]; exact hB)) (HX0.out.up (by rw [HS0.out]; exact hB))).mono ?_); rintro e w1 ⟨rfl, hb⟩; replace HC := Lib.hid (HC.out.up hb); have hsq := hB.size; rw [HS0.out] at hsq; replace hB := hB.trans (hb.mono hsq); clear hb hsq c0 c1 c2 c3 c4 c5 c6 lt; obtain ⟨c0, c1, c2, c3, c4, c5, c6, lt⟩ := HC.out))
    go_ret
    exact ⟨rfl, by first | exact hB | (rw [HS0.out]; exact hB)⟩
  have hMP := hmv.1 rfl
  rw [hmr.2 hMP.reverse] at hv
  rw [(at_reverse hMP).1, (at_reverse hMP).2] at h1y
  rw [(move_reverse hMP).1, (move_reverse hMP).2] at h3y
  have hml := moveL_len (L := L) (K := K) (day := day) (b := b)
  generalize moveE L K day b = er at *
  generalize moveL L K day b = M at *
  obtain ⟨nl, hnl⟩ : ∃ nl, M.length = nl := ⟨_, rfl⟩
  have s1 := fun A B c d w h1 h2 => rsameb_any A B c d M M w h1 h2 (by omega) (by omega)
  rw [show decide (M = M) = true from by simp, hnl] at s1
  obtain ⟨te, hte⟩ : ∃ te, atV L K code day = te := ⟨_, rfl⟩
  obtain ⟨ee, hee⟩ : ∃ ee, atE L K code day = ee := ⟨_, rfl⟩
  rw [hte, hee] at h1 h1y
  have et : (te == te) = true := by simp
  have ett : (ee == ee) = true := by simp
  have err : (er == er) = true := by simp
  have hget : ∀ t, t < m → K.reverse.getD t lnk0 = K.getD (m - 1 - t) lnk0 := fun t ht => by rw [rev_getD (by rw [hK2.lm]; exact ht), hK2.lm]
  have htk : ∀ t, t < m → K.reverse.take (t + 1) = K.reverse.take t ++ [K.reverse.getD t lnk0] := fun t ht => take_succ_getD (by rw [hrl]; exact ht)
  have hrt : ∀ t, m ≤ t → K.reverse.take t = K.reverse := fun t ht => List.take_of_length_le (by rw [hrl]; exact ht)
  have hr0 : K.reverse.take 0 = [] := rfl
  have hkl : ∀ t, t ≤ m → (K.reverse.take t).length = t := fun t ht => by rw [List.length_take, hrl]; omega
  obtain ⟨R, hR⟩ : ∃ R, K.reverse = R := ⟨_, rfl⟩
  rw [hR] at hv h1y h3y hget htk hrt hr0 hkl
  obtain ⟨iL, hiL, hL0, hL1, hL2⟩ := info_parts infoL
  have hm60 : m ≤ 60 := h6
  have H1 := Lib.hid h1
  have H1Y := Lib.hid h1y
  have H2 := Lib.hid h2
  have H3 := Lib.hid h3
  have H3Y := Lib.hid h3y
  have HV := Lib.hid hv
  have S1 := Lib.hid s1
  have HNL := Lib.hid hnl
  have HGET := Lib.hid hget
  have HTK := Lib.hid htk
  have HRT := Lib.hid hrt
  have HR0 := Lib.hid hr0
  have HKL := Lib.hid hkl
  have HKM := Lib.hid hK2.lm
  clear h1 h1y h2 h3 h3y hv s1 hnl hget htk hrt hr0 hkl hmv hmr hMP hml hte hee hln hlm hlr hlc hlb hwr hrl hK2 HK h5 h6 hR hk6 hk7
  have hw0 : IntKind.i64.wrap ((m : Int) - 1) = (m : Int) - 1 := IntWalk.i64_in _ (by omega)
  go_enter Try.func8, Try.ntmps8
  go_wp2_with (first
    | (go_at_call 9; refine (mpawake_any _).mono ?_; rintro e w1 ⟨rfl, hb⟩; replace HC := Lib.hid (HC.out.up hb); have hsq := hB.size; rw [HS0.out] at hsq; replace hB := hB.trans (hb.mono hsq); clear hb hsq c0 c1 c2 c3 c4 c5 c6 lt; obtain ⟨c0, c1, c2, c3, c4, c5, c6, lt⟩ := HC.out)
    | (go_at_call 10; (with_reducible refine (HFW.out _).mono ?_); rintro e w1 ⟨rfl, hb⟩; replace HC := Lib.hid (HC.out.up hb); have hsq := hB.size; rw [HS0.out] at hsq; replace hB := hB.trans (hb.mono hsq); clear hb hsq c0 c1 c2 c3 c4 c5 c6 lt; obtain ⟨c0, c1, c2, c3, c4, c5, c6, lt⟩ := HC.out)
    | (go_at_call 12; (with_reducible refine (H2.out _ (HZ0.out.up (by rw [HS0.out]; exact hB)) (HY0.out.up (by rw [HS0.out]; exact hB)) (HX0.out.up (by rw [HS0.out]; exact hB))).mono ?_); rintro e w1 ⟨rfl, hb⟩; replace HC := Lib.hid (HC.out.up hb); have hsq := hB.size; rw [HS0.out] at hsq; replace hB := hB.trans (hb.mono hsq); clear hb hsq c0 c1 c2 c3 c4 c5 c6 lt; obtain ⟨c0, c1, c2, c3, c4, c5, c6, lt⟩ := HC.out; obtain ⟨⟨f0, f1, f2, f3, f4, flt⟩, ffz⟩ := ef_new w1 25 nm cur A n c B m d jt; have ff3 := ffz 3))
  rw [HS0.out]
  rename World => w3
  obtain ⟨g9, hg9⟩ : ∃ g9, w3.heap.size = g9 := ⟨_, rfl⟩
  have hb9 := below_alloc_new (w := w3) (.cells #[.string nm, .string cur, .slice A n c, .slice none 0 0, .bool jt] 25)
  have hsq := hB.size
  rw [HS0.out] at hsq
  have hl3 : s0 < w3.heap.size := by have := HC.out.lt; rw [HS0.out] at this; exact this
  have hE9 := ef_new w3 25 nm cur A n c none 0 0 jt
  have hB9 := hB.trans (hb9.mono hsq)
  have hC9 : CB (w3.alloc (.cells #[.string nm, .string cur, .slice A n c, .slice none 0 0, .bool jt] 25)) s0 nm cur A n c B m d jt code day := by
    have h1 := HC.out
    rw [HS0.out] at h1
    exact h1.up hb9
  clear hb9 c0 c1 c2 c3 c4 c5 c6 lt f0 f1 f2 f3 f4 flt ffz ff3 HC hB
  rw [hg9] at hE9 hl3 ⊢
  generalize World.alloc w3 _ = W9 at *
  obtain ⟨s9, hs9⟩ : ∃ s9, W9.heap.size = s9 := ⟨_, rfl⟩
  have hg9s : g9 < s9 := by rw [← hs9]; exact hE9.cells.lt
  have HS9 := Lib.hid hs9
  have HE := Lib.hid hE9
  have HC := Lib.hid hC9
  have HO : Hid (OwnL 46 W9 s9 (.slice none 0 0) (R.take 0)) := Lib.hid (by rw [HR0.out]; exact OwnL.nil)
  have hl9 : Hid (s9 ≤ W9.heap.size) := Lib.hid (by omega)
  clear hE9 hC9 hs9 hg9 hsq
  go_loopg [8] m (fun kx s8 wr => ∃ (t : Nat) (z : Int) (A9 : Option Addr) (c9 : Nat), s8 = .int .i64 z ∧ z = (m : Int) - 1 - (t : Int) ∧ t ≤ m ∧ m - t ≤ kx ∧ Hid (OwnL 46 wr s9 (.slice A9 t c9) (R.take t)) ∧ Hid (EF wr g9 nm cur A n c A9 t c9 jt) ∧ Hid (CB wr s0 nm cur A n c B m d jt code day) ∧ Hid (s9 ≤ wr.heap.size) ∧ Below s0 w wr)
  case atStart => exact ⟨0, _, none, 0, rfl, by omega, by omega, by omega, HO, HE, HC, hl9, hB9⟩
  case round =>
    clear HO HE HC hl9 hB9
    rename World => wr
    obtain ⟨t, z, A9, c9, rfl, hz, ht, htx, HO, HE, HC, hl9, hB⟩ := hrel
    obtain ⟨c0, c1, c2, c3, c4, c5, c6, lt⟩ := HC.out
    obtain ⟨⟨f0, f1, f2, f3, f4, flt⟩, ffz⟩ := HE.out
    by_cases htl : t < m
    · obtain ⟨j, hj⟩ : ∃ j, m - 1 - t = j := ⟨_, rfl⟩
      have hzj : z = (j : Int) := by omega
      subst hzj
      have HJE := Lib.hid hz
      have hj0 : decide ((0 : Int) ≤ (j : Int)) = true := decide_eq_true (by omega)
      have hjm : (j : Int) < (m : Int) := by omega
      have hjw : IntKind.i64.wrap ((j : Int) - 1) = (j : Int) - 1 := IntWalk.i64_in _ (by omega)
      obtain ⟨bk, offk, eB, hbk, hck⟩ := (HY0.out.up (by rw [HS0.out]; exact hB)) (by rw [HKM.out]; omega)
      subst eB
      have hgt := HGET.out t htl
      have htk := HTK.out t htl
      have hkl := HKL.out t ht
      rw [hj] at hgt
      obtain ⟨d0, d1, d2⟩ := hck j (by rw [HKM.out]; omega)
      obtain ⟨x, hx⟩ : ∃ x, K.getD j lnk0 = x := ⟨_, rfl⟩
      rw [hx] at hgt d0 d1 d2
      rw [hgt] at htk
      have HTK2 := Lib.hid htk
      have HKL2 := Lib.hid hkl
      have hsz := hl9.out
      clear hck hgt htk hkl hx hj hz
      go_wp2_with fail
      go_region_law (refine step_app_lnks rfl (.tmp 53) (.tmp 60) 23 rfl s9 46 iL 24 Try.underlying23 hiL hL0 hL1 hL2 (by omega) (.slice A9 t c9) (R.take t) rfl (by first | exact HO.out.alloc _ | exact (OwnL.alloc (w := wr.drew) HO.out _)) (some ⟨_, 0, none⟩) 1 _ [x] rfl rfl (by first | exact (lb_new _ _ x).row | exact (lb_new _ _ x).drew9.row) (by rw [HKL2.out]; omega) (by first | (simp; omega) | omega) ?_
                     intro v6 w6 ho6 hg6 hb6
                     have HB6 : Below s9 wr w6 := by first | exact ((Below.refl s9 wr).alloc hsz _).trans hb6 | exact (dc_drew ((Below.refl s9 wr).alloc hsz _)).trans hb6 | exact ((dc_drew (Below.refl s9 wr)).alloc hsz _).trans hb6
                     obtain ⟨A6, c6', hv6, hA6⟩ := ho6.out.reads
                     rw [List.length_append, HKL2.out] at hv6
                     have hv6' : v6 = .slice A6 (t + 1) c6' := hv6
                     have HE6 := Lib.hid (HE.out.blk (HB6.block g9 hg9s))
                     subst hv6'
                     clear f0 f1 f2 f3 f4 flt ffz
                     obtain ⟨⟨f0, f1, f2, f3, f4, flt⟩, ffz⟩ := HE6.out
                     have ff3 := ffz 3
                     clear hb6 hg6 hv6 hA6)
      all_goals
        have hB8 : Below s0 w (w6.setCell ⟨g9, 3, none⟩ (.slice A6 (t + 1) c6')) := Below.setCell (p := ⟨g9, 3, none⟩) (hB.trans (HB6.mono (by omega))) (by show s0 ≤ g9; omega) _
        have HE8 := Lib.hid (HE6.out.put3 A6 (t + 1) c6')
        have HC8 : Hid (CB (w6.setCell ⟨g9, 3, none⟩ (.slice A6 (t + 1) c6')) s0 nm cur A n c (some ⟨bk, offk, none⟩) m d jt code day) := Lib.hid ((HC.out.blk (HB6.block s0 (by omega))).blk (Below.heap_setCell _ _ _ _ (by show s0 ≠ g9; omega)))
        have HO8 : Hid (OwnL 46 (w6.setCell ⟨g9, 3, none⟩ (.slice A6 (t + 1) c6')) s9 (.slice A6 (t + 1) c6') (R.take (t + 1))) := Lib.hid (by rw [HTK2.out]; exact ho6.out.far hg9s 3 _)
        have hl8 : Hid (s9 ≤ (w6.setCell ⟨g9, 3, none⟩ (.slice A6 (t + 1) c6')).heap.size) := Lib.hid (by have := HB6.size; simp [World.setCell]; omega)
        clear ho6 HB6 HE6 f0 f1 f2 f3 f4 flt ffz ff3 c0 c1 c2 c3 c4 c5 c6 lt d0 d1 d2 HO HE HC hB
        go_wp2_with fail
        go_roundg (m - (t + 1))
        case measure => omega
        case rel => exact ⟨t + 1, _, A6, c6', rfl, (by have := HJE.out; omega), by omega, by omega, HO8, HE8, HC8, hl8, hB8⟩
    · obtain rfl : t = m := by omega
      have hzj : z = -1 := by omega
      subst hzj
      have ho := HO.out
      rw [HRT.out t (Nat.le_refl _)] at ho
      have hkm : R.length = t := by have h1 := HKL.out t (Nat.le_refl _); rw [HRT.out t (Nat.le_refl _)] at h1; exact h1
      obtain ⟨A6, c6', hv6, hA6⟩ := ho.reads
      rw [hkm] at hv6
      cases hv6
      have HK8 := Lib.hid hA6
      have HE := Lib.hid HE.out.cells
      clear ho hkm hA6 HO ffz hz
      go_wp2_with (first
        | (go_at_call 13; first
          | ((with_reducible refine (H1.out _ (HZ0.out.up (by rw [HS0.out]; exact hB)) (HY0.out.up (by rw [HS0.out]; exact hB))).mono ?_); rintro e w9 ⟨rfl, hb⟩; replace HC := Lib.hid (HC.out.up hb); replace HE := Lib.hid (HE.out.up hb); replace HK8 := Lib.hid (HK8.out.up hb); have hsq := hB.size; rw [HS0.out] at hsq; replace hB := hB.trans (hb.mono hsq); clear hb hsq c0 c1 c2 c3 c4 c5 c6 lt f0 f1 f2 f3 f4 flt; obtain ⟨c0, c1, c2, c3, c4, c5, c6, lt⟩ := HC.out; obtain ⟨f0, f1, f2, f3, f4, flt⟩ := HE.out)
          | ((with_reducible refine (H1Y.out _ _ _ (HZ0.out.up (by rw [HS0.out]; exact hB)) HK8.out).mono ?_); rintro e w9 ⟨rfl, hb⟩; replace HC := Lib.hid (HC.out.up hb); replace HE := Lib.hid (HE.out.up hb); replace HK8 := Lib.hid (HK8.out.up hb); have hsq := hB.size; rw [HS0.out] at hsq; replace hB := hB.trans (hb.mono hsq); clear hb hsq c0 c1 c2 c3 c4 c5 c6 lt f0 f1 f2 f3 f4 flt; obtain ⟨c0, c1, c2, c3, c4, c5, c6, lt⟩ := HC.out; obtain ⟨f0, f1, f2, f3, f4, flt⟩ := HE.out))
        | (go_at_call 18; first
          | ((with_reducible refine (H3.out _ (HZ0.out.up (by rw [HS0.out]; exact hB)) (HY0.out.up (by rw [HS0.out]; exact hB)) (HD0.out.up (by rw [HS0.out]; exact hB))).mono ?_); rintro e w9 ⟨v9, rfl, hs9, hb⟩; obtain ⟨AX, cX, hv9, hI9⟩ := hs9; rw [HNL.out] at hv9; subst hv9; have HI6 := Lib.hid hI9; clear hI9; replace HC := Lib.hid (HC.out.up hb); replace HE := Lib.hid (HE.out.up hb); replace HK8 := Lib.hid (HK8.out.up hb); have hsq := hB.size; rw [HS0.out] at hsq; replace hB := hB.trans (hb.mono hsq); clear hb hsq c0 c1 c2 c3 c4 c5 c6 lt f0 f1 f2 f3 f4 flt; obtain ⟨c0, c1, c2, c3, c4, c5, c6, lt⟩ := HC.out; obtain ⟨f0, f1, f2, f3, f4, flt⟩ := HE.out)
          | ((with_reducible refine (H3Y.out _ _ _ (HZ0.out.up (by rw [HS0.out]; exact hB)) HK8.out (HD0.out.up (by rw [HS0.out]; exact hB))).mono ?_); rintro e w9 ⟨v9, rfl, hs9, hb⟩; obtain ⟨AY, cY, hv9, hI9⟩ := hs9; rw [HNL.out] at hv9; subst hv9; have HI7 := Lib.hid hI9; replace HI6 := Lib.hid (HI6.out.up hb); clear hI9; replace HC := Lib.hid (HC.out.up hb); replace HE := Lib.hid (HE.out.up hb); replace HK8 := Lib.hid (HK8.out.up hb); have hsq := hB.size; rw [HS0.out] at hsq; replace hB := hB.trans (hb.mono hsq); clear hb hsq c0 c1 c2 c3 c4 c5 c6 lt f0 f1 f2 f3 f4 flt; obtain ⟨c0, c1, c2, c3, c4, c5, c6, lt⟩ := HC.out; obtain ⟨f0, f1, f2, f3, f4, flt⟩ := HE.out))
        | (go_at_call 11; (with_reducible refine (HV.out _ _ _ (HZ0.out.up (by rw [HS0.out]; exact hB)) HK8.out (HX0.out.up (by rw [HS0.out]; exact hB))).mono ?_); rintro e w9 ⟨rfl, hb⟩; replace HI6 := Lib.hid (HI6.out.up hb); replace HI7 := Lib.hid (HI7.out.up hb); replace HC := Lib.hid (HC.out.up hb); replace HE := Lib.hid (HE.out.up hb); replace HK8 := Lib.hid (HK8.out.up hb); have hsq := hB.size; rw [HS0.out] at hsq; replace hB := hB.trans (hb.mono hsq); clear hb hsq c0 c1 c2 c3 c4 c5 c6 lt f0 f1 f2 f3 f4 flt; obtain ⟨c0, c1, c2, c3, c4, c5, c6, lt⟩ := HC.out; obtain ⟨f0, f1, f2, f3, f4, flt⟩ := HE.out)
        | (go_at_call 20; (with_reducible refine (S1.out _ _ _ _ _ HI6.out HI7.out).mono ?_); rintro e w9 ⟨rfl, hb⟩; replace HC := Lib.hid (HC.out.up hb); replace HE := Lib.hid (HE.out.up hb); replace HK8 := Lib.hid (HK8.out.up hb); have hsq := hB.size; rw [HS0.out] at hsq; replace hB := hB.trans (hb.mono hsq); clear hb hsq c0 c1 c2 c3 c4 c5 c6 lt f0 f1 f2 f3 f4 flt; obtain ⟨c0, c1, c2, c3, c4, c5, c6, lt⟩ := HC.out; obtain ⟨f0, f1, f2, f3, f4, flt⟩ := HE.out))
      go_ret
      exact ⟨rfl, by first | exact hB | (rw [HS0.out]; exact hB)⟩
end Go.Proofs.Ytmahnpbjjadipaa
