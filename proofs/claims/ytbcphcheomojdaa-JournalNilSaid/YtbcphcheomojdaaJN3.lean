/- Contracts of the functions that the statements reach, part 3: what was proved of each, callees first. -/
import Derived.Shelf.SlGeneric
import Derived.Carry
import Derived.BigRegion
import Derived.Laws.Tables
import Derived.WalkSpells
import Derived.Lib.SliceRun
import Derived.Test.YtbcphcheomojdaaJN2
namespace Go.Proofs.Ytbcphcheomojdaa
open Go.RowKit
def enpB (L : List Acc) (R : List Int) (e : Ent) : Bool := nameB e.nm && (curB e.cur && (mvB e.L e.K L && allTo (fun i => opnP R (e.K.getD i lnk0).tgt) e.K.length))
set_option maxRecDepth 20000 in
set_option maxHeartbeats 3200000 in
theorem gent_any (g : Grp) (L : List Acc) (e : Ent) (w : World) (hz : AccAt w g.A L) (ln : L.length = g.n) (hl : g.n ≤ 1000) (he : EntK w e.A e.n e.L e.B e.m e.K) (hn : e.n ≤ 1000) (hm : e.m ≤ 1000) :
  Calls Try.prog 53 #[grpV g, eV e] w fun e' w' => e' = .returned (.bool (enpB L g.R e)) ∧ Below w.heap.size w w' := by
 have hB1 := below_alloc_new (w := w) (.cells #[.string g.cur, .int .i64 g.cy, .int .i64 g.cm, .int .i64 g.cp, .slice g.A g.n g.c, .int .i64 g.r0, .int .i64 g.r1, .int .i64 g.r2, .int .i64 g.r3, .int .i64 g.r4, .int .i64 g.r5, .int .i64 g.r6, .int .i64 g.r7, .int .i64 g.r8, .int .i64 g.r9, .int .i64 g.r10, .int .i64 g.r11, .int .i64 g.r12, .int .i64 g.r13, .int .i64 g.r14, .slice g.E g.m g.d] 52)
 have hB := below_new hB1 (.cells #[.string e.nm, .string e.cur, .slice e.A e.n e.c, .slice e.B e.m e.d, .bool e.jt] 71)
 have hG := (gb_new w 52 g).up (below_alloc_new (.cells #[.string e.nm, .string e.cur, .slice e.A e.n e.c, .slice e.B e.m e.d, .bool e.jt] 71))
 have hE := eb_new (w.alloc (.cells #[.string g.cur, .int .i64 g.cy, .int .i64 g.cm, .int .i64 g.cp, .slice g.A g.n g.c, .int .i64 g.r0, .int .i64 g.r1, .int .i64 g.r2, .int .i64 g.r3, .int .i64 g.r4, .int .i64 g.r5, .int .i64 g.r6, .int .i64 g.r7, .int .i64 g.r8, .int .i64 g.r9, .int .i64 g.r10, .int .i64 g.r11, .int .i64 g.r12, .int .i64 g.r13, .int .i64 g.r14, .slice g.E g.m g.d] 52)) 71 e.nm e.cur e.A e.n e.c e.B e.m e.d e.jt
 have e1 : (w.alloc (.cells #[.string g.cur, .int .i64 g.cy, .int .i64 g.cm, .int .i64 g.cp, .slice g.A g.n g.c, .int .i64 g.r0, .int .i64 g.r1, .int .i64 g.r2, .int .i64 g.r3, .int .i64 g.r4, .int .i64 g.r5, .int .i64 g.r6, .int .i64 g.r7, .int .i64 g.r8, .int .i64 g.r9, .int .i64 g.r10, .int .i64 g.r11, .int .i64 g.r12, .int .i64 g.r13, .int .i64 g.r14, .slice g.E g.m g.d] 52)).heap.size = w.heap.size + 1 := by simp
 rw [e1] at hE
 have h1 := fun w => gnam_any e.nm w
 have h2 := fun w => gcur_any e.cur w
 have h3 : ∀ w, EntK w e.A e.n e.L e.B e.m e.K → AccAt w g.A L → Calls Try.prog 67 #[eV e, .slice g.A g.n g.c] w fun e' w' => e' = .returned (.bool (mvB e.L e.K L)) ∧ Below w.heap.size w w' := fun w h h' => by
  have h9 := cval9_any e.nm e.cur e.A e.c e.L e.B e.d e.K e.jt g.A g.c L w h.hz h.hy h' (by have := h.ln; omega) (by have := h.lm; omega) (by omega) h.wl
  rw [h.ln, h.lm, ln] at h9
  exact h9
 have h4 := fun x w => gopen_any g x w
 have hv : enpB L g.R e = (nameB e.nm && (curB e.cur && (mvB e.L e.K L && allTo (fun i => opnP g.R (e.K.getD i lnk0).tgt) e.K.length))) := rfl
 rw [he.lm] at hv
 obtain ⟨X, hX⟩ : ∃ X : Value, X = grpV g := ⟨_, rfl⟩
 rw [← hX] at h4
 generalize enpB L g.R e = r at *
 generalize nameB e.nm = q1 at *
 generalize curB e.cur = q2 at *
 generalize mvB e.L e.K L = q3 at *
 obtain ⟨s0, hs0⟩ : ∃ s0, w.heap.size = s0 := ⟨_, rfl⟩
 have hs1 : s0 ≤ ((w.alloc (.cells #[.string g.cur, .int .i64 g.cy, .int .i64 g.cm, .int .i64 g.cp, .slice g.A g.n g.c, .int .i64 g.r0, .int .i64 g.r1, .int .i64 g.r2, .int .i64 g.r3, .int .i64 g.r4, .int .i64 g.r5, .int .i64 g.r6, .int .i64 g.r7, .int .i64 g.r8, .int .i64 g.r9, .int .i64 g.r10, .int .i64 g.r11, .int .i64 g.r12, .int .i64 g.r13, .int .i64 g.r14, .slice g.E g.m g.d] 52)).alloc (.cells #[.string e.nm, .string e.cur, .slice e.A e.n e.c, .slice e.B e.m e.d, .bool e.jt] 71)).heap.size := by simp; omega
 have hek : EntK ((w.alloc (.cells #[.string g.cur, .int .i64 g.cy, .int .i64 g.cm, .int .i64 g.cp, .slice g.A g.n g.c, .int .i64 g.r0, .int .i64 g.r1, .int .i64 g.r2, .int .i64 g.r3, .int .i64 g.r4, .int .i64 g.r5, .int .i64 g.r6, .int .i64 g.r7, .int .i64 g.r8, .int .i64 g.r9, .int .i64 g.r10, .int .i64 g.r11, .int .i64 g.r12, .int .i64 g.r13, .int .i64 g.r14, .slice g.E g.m g.d] 52)).alloc (.cells #[.string e.nm, .string e.cur, .slice e.A e.n e.c, .slice e.B e.m e.d, .bool e.jt] 71)) e.A e.n e.L e.B e.m e.K := he.up hB
 have hz2 := hz.up hB
 rw [hs0] at hB hG hE ⊢
 have HS0 := Lib.hid hs0
 have HG := Lib.hid hG
 have HX := Lib.hid hX
 have HNM := Lib.hid h1
 have HCU := Lib.hid h2
 have HMV := Lib.hid h3
 have HOP := Lib.hid h4
 have HS1 := Lib.hid hs1
 have HEK := Lib.hid hek
 have HZ := Lib.hid hz2
 have HY := Lib.hid he.hy
 have HLM := Lib.hid he.lm
 have HV := Lib.hid hv
 have d4 := hG.c4
 obtain ⟨c0, c1, c2, c3, c4, lt⟩ := hE
 clear hz hz2 ln hl he hn hB1 hG e1 h1 h2 h3 h4 hv hX hs1 hek
 cases q1
 ·have HR := Lib.hid (show r = false from HV.out)
  clear HV
  go_enter Try.func53, Try.ntmps53
  go_wp2_with (first | (go_at_call 66; refine (HNM.out _).mono ?_; rintro e1 w1 ⟨rfl, rfl⟩))
  go_ret
  exact ⟨by rw [HR.out]; rfl, hB⟩
 cases q2
 ·have HR := Lib.hid (show r = false from HV.out)
  clear HV
  go_enter Try.func53, Try.ntmps53
  go_wp2_with (first | (go_at_call 66; refine (HNM.out _).mono ?_; rintro e1 w1 ⟨rfl, rfl⟩) | (go_at_call 36; refine (HCU.out _).mono ?_; rintro e1 w1 ⟨rfl, rfl⟩))
  go_ret
  exact ⟨by rw [HR.out]; rfl, hB⟩
 have c3' := c3
 have lt2 := lt
 cases q3
 ·have HR := Lib.hid (show r = false from HV.out)
  clear HV
  go_enter Try.func53, Try.ntmps53
  go_wp2_with (first | (go_at_call 66; refine (HNM.out _).mono ?_; rintro e1 w1 ⟨rfl, rfl⟩) | (go_at_call 36; refine (HCU.out _).mono ?_; rintro e1 w1 ⟨rfl, rfl⟩) | (go_at_call 67; (with_reducible refine (HMV.out _ HEK.out HZ.out).mono ?_); rintro e1 w1 ⟨rfl, hb⟩; have hB2 := hB.trans (hb.mono HS1.out); have HG2 := Lib.hid (HG.out.up hb); clear hb hB HG c0 c1 c2 c3 c4 lt d4))
  go_ret
  exact ⟨by rw [HR.out]; rfl, hB2⟩
 have HE := Lib.hid (EB.mk c0 c1 c2 c3 c4 lt)
 obtain ⟨P, hP⟩ : ∃ P : Nat → Bool, (fun i => opnP g.R (e.K.getD i lnk0).tgt) = P := ⟨_, rfl⟩
 have hv2 := HV.out
 rw [hP] at hv2
 have HV2 := Lib.hid (show r = allTo P e.m from hv2)
 have HP := Lib.hid (fun i => show opnP g.R (e.K.getD i lnk0).tgt = P i from by rw [← hP])
 clear HV hP hv2 c3' lt2
 go_enter Try.func53, Try.ntmps53
 go_wp2_with (first | (go_at_call 66; refine (HNM.out _).mono ?_; rintro e1 w1 ⟨rfl, rfl⟩) | (go_at_call 36; refine (HCU.out _).mono ?_; rintro e1 w1 ⟨rfl, rfl⟩) | (go_at_call 67; (with_reducible refine (HMV.out _ HEK.out HZ.out).mono ?_); rintro e1 w1 ⟨rfl, hb⟩; have hB2 := hB.trans (hb.mono HS1.out); have HG2 := Lib.hid (HG.out.up hb); have HE2 := HE.out.up hb; clear hb hB HG HE c0 c1 c2 c3 c4 lt d4; obtain ⟨c0, c1, c2, c3, c4, lt⟩ := HE2))
 clear hs0 HNM HCU HMV HEK HZ HS1 c0 c1 c2 c3 c4 lt
 obtain ⟨n, hn2⟩ : ∃ n, e.m = n := ⟨_, rfl⟩
 obtain ⟨B, hB9⟩ : ∃ B, e.B = B := ⟨_, rfl⟩
 rw [hn2] at hm HLM HV2 ⊢
 rw [hB9] at HY ⊢
 clear hn2 hB9
 go_loopg [27] n (fun kx s27 wr => ∃ k : Nat, s27 = .int .i64 k ∧ k ≤ n ∧ n - k ≤ kx ∧ Hid (allTo P k = true) ∧ Hid (GB wr s0 g) ∧ Below s0 w wr)
 case atStart => exact ⟨0, rfl, by omega, by omega, Lib.hid rfl, HG2, hB2⟩
 case round =>
  clear hB2 HG2
  obtain ⟨k, rfl, hk, hkx, HA, HG, hB⟩ := hrel
  by_cases hlt : k < n
  ·have hltz : (k : Int) < (n : Int) := by omega
   have hsz : s0 ≤ wr.heap.size := by have := HG.out.lt; omega
   obtain ⟨b, off, rfl, hbw, hcs⟩ := HY.out (by rw [HLM.out]; omega)
   obtain ⟨d0, d1, d2⟩ := (hcs k (by rw [HLM.out]; exact hlt)).up hB (by have := HS0.out; omega)
   have hp := HP.out k
   have hno : P k = false → r = false := fun h => by rw [HV2.out]; exact allTo_no hlt h
   have hnx : P k = true → Hid (allTo P (k + 1) = true) := fun h => Lib.hid (by show (allTo P k && P k) = true; rw [HA.out, h]; rfl)
   obtain ⟨x, hx⟩ : ∃ x, e.K.getD k lnk0 = x := ⟨_, rfl⟩
   rw [hx] at d0 d1 d2 hp
   have hox := fun w => HOP.out x.tgt w
   rw [hp] at hox
   generalize P k = q at *
   have hl1 := lb_new wr 84 x
   have HB1 : Hid (Below s0 w (wr.alloc (.cells #[.int .i64 x.frm, .int .i64 x.tgt, .int .i64 x.since] 84))) := Lib.hid (hB.alloc hsz _)
   have HSZ1 : Hid (s0 ≤ (wr.alloc (.cells #[.int .i64 x.frm, .int .i64 x.tgt, .int .i64 x.since] 84)).heap.size) := Lib.hid (by simp; omega)
   have HG1 := Lib.hid (HG.out.up (below_alloc_new (.cells #[.int .i64 x.frm, .int .i64 x.tgt, .int .i64 x.since] 84)))
   obtain ⟨⟨v0, v1, v2⟩, vlt⟩ := hl1
   simp only [Nat.zero_add] at v1 v2
   have HOx := Lib.hid hox
   clear hcs hx hp hox HA HG hB
   cases q
   ·have HR := Lib.hid (hno rfl)
    clear hno hnx
    go_wp2_with (first
     | (refine wpList_load_is rfl 52 _ rfl (.pointer (some ⟨s0, 0, none⟩)) rfl X (gb_lV HG1.out HX.out) ?_)
     | (go_at_call 68; refine (HOx.out _).mono ?_; rintro e1 w3 ⟨rfl, hb⟩; have hB3 := HB1.out.trans (hb.mono HSZ1.out); have HG3 := Lib.hid (HG1.out.up hb); clear hb HG1 HB1 HSZ1 v0 v1 v2 vlt))
    go_ret
    exact ⟨by rw [HR.out]; rfl, hB3⟩
   ·have HA2 := hnx rfl
    clear hno hnx
    go_wp2_with (first
     | (refine wpList_load_is rfl 52 _ rfl (.pointer (some ⟨s0, 0, none⟩)) rfl X (gb_lV HG1.out HX.out) ?_)
     | (go_at_call 68; refine (HOx.out _).mono ?_; rintro e1 w3 ⟨rfl, hb⟩; have hB3 := HB1.out.trans (hb.mono HSZ1.out); have HG3 := Lib.hid (HG1.out.up hb); clear hb HG1 HB1 HSZ1 v0 v1 v2 vlt))
    go_roundg (n - (k + 1))
    case measure => omega
    case rel => exact ⟨k + 1, by go_num, by omega, by omega, HA2, HG3, hB3⟩
  ·obtain rfl : k = n := by omega
   have hltz : ¬ (k : Int) < (k : Int) := by omega
   have HR : Hid (r = true) := Lib.hid (by rw [HV2.out]; exact HA.out)
   go_wp2_with fail
   go_ret
   exact ⟨by rw [HR.out]; rfl, hB⟩
open Go.RowKit Go.Maps Go.Sort Go.Shelf
theorem ts9_keyed : Keyed Try.prog 9 := string_keyed Try.underlying9
abbrev litS (s : ByteArray) : Lit := .string s.data.toList
theorem litS_inj {a b : ByteArray} (h : litS a = litS b) : a = b := by
 injection h with h
 exact ByteArray.ext (Array.toList_inj.1 h)
theorem key_str {s : ByteArray} (hs : s.size ≤ maxLen) : keyOf Try.prog 9 (.string s) = some (litS s) := WideMaps.keyOf_string_mk Try.underlying9 hs
def SetS (w : World) (b m : Nat) (S : ByteArray → Bool) : Prop := ∃ D : DataW Value, w.ownsMap Try.prog 9 heldE b m D ∧ ∀ x, Maps.has D (litS x) = S x ∧ ∀ z, D.atKey (litS x) z = cond (S x) (.held (.bool true)) z
theorem SetS.lt {w : World} {b m : Nat} {S : ByteArray → Bool} (h : SetS w b m S) : b < w.heap.size := by
 obtain ⟨D, h1, _⟩ := h
 exact h1.lt
theorem SetS.blk {w w' : World} {b m : Nat} {S : ByteArray → Bool} (h : SetS w b m S) (hk : w'.heap[b]? = w.heap[b]?) : SetS w' b m S := by
 obtain ⟨D, ⟨es, clock, hb, rest⟩, h2⟩ := h
 exact ⟨D, ⟨es, clock, hk.trans hb, rest⟩, h2⟩
theorem SetS.up {w w' : World} {b m : Nat} {S : ByteArray → Bool} (h : SetS w b m S) (hb : Below w.heap.size w w') : SetS w' b m S := h.blk (hb.block b h.lt)
theorem SetS.made (w : World) : SetS (w.alloc (.map #[] 0)) w.heap.size 0 (fun _ => false) :=
 ⟨.map [], World.ownsMap_made _ _ _ _, fun _ => ⟨rfl, fun _ => rfl⟩⟩
theorem SetS.put {w' : World} {b n : Nat} {D : DataW Value} {S : ByteArray → Bool} {c : ByteArray} (h2 : IsMap D) (h3 : ∀ x, Maps.has D (litS x) = S x ∧ ∀ z, D.atKey (litS x) z = cond (S x) (.held (.bool true)) z) (h4 : w'.ownsMap Try.prog 9 heldE b n (D.put (litS c) (.held (.bool true)))) :
  SetS w' b n (fun x => decide (x = c) || S x) := by
 have hkl : ∀ z : ByteArray, WideAt.IsKeyLit (litS z) := fun z => by simp [WideAt.IsKeyLit]
 refine ⟨_, h4, fun x => ?_⟩
 dsimp only
 by_cases hxc : x = c
 ·subst hxc
  rw [has_put_same h2 (hkl _), decide_eq_true rfl]
  exact ⟨rfl, fun z => by rw [atKey_put_same h2 (hkl _)]; rfl⟩
 ·have hne : litS x ≠ litS c := fun e => hxc (litS_inj e)
  rw [has_put_other hne, decide_eq_false hxc]
  refine ⟨(h3 x).1, fun z => ?_⟩
  rw [atKey_put_other hne]
  exact (h3 x).2 z
theorem wpList_sets_look {w : World} {ops : Array Oper} {rest : List Oper} {o : Oper} {a : Act} {Q : Exit → Act → World → Prop} (hg : o.guard = none) (m x : Operand) (hop : o.op = Op.lookup 106 m x false)
  (b n : Nat) (S : ByteArray → Bool) (hm : a.eval m = .map (some b)) (hs : SetS w b n S) (c : ByteArray) (hx : a.eval x = .string c) (hw : c.size ≤ maxLen)
  (hK : wpList Try.prog ops Q rest (a.put o.dst (.bool (S c))) w) : wpList Try.prog ops Q (o :: rest) a w := by
 obtain ⟨D, h1, h3⟩ := hs
 refine wpList_plain hg fun K' hK' => ?_
 have hz : ∀ w : World, (zeroValue 4).run Try.prog w = .ok (.bool false) w := fun w => by kernel_rfl
 obtain ⟨v, ps, hrun, hv⟩ := h1.lookup ts9_keyed Try.underlying106 (hz w) (zd := .held (.bool false)) (zp := []) rfl (key_str hw)
 have he : v = .bool (S c) := by
  rw [(h3 c).2] at hv
  simp only [heldE, Option.some.injEq, Prod.mk.injEq] at hv
  have h4 := hv.1
  cases hf : S c
  ·rw [hf] at h4; injection h4
  ·rw [hf] at h4; injection h4
 unfold Oper.wp
 simp [execOp, hop, hm, hx, hrun, Result.andThen]
 exact hK' _ _ (he ▸ hK)
theorem wpList_sets_lookq {w : World} {ops : Array Oper} {rest : List Oper} {o : Oper} {a : Act} {Q : Exit → Act → World → Prop} (hg : o.guard = none) (m x : Operand) (hop : o.op = Op.lookup 106 m x false)
  (b n : Nat) (S : ByteArray → Bool) (hm : a.eval m = .map (some b)) (hs : SetS w b n S) (c : ByteArray) (hx : a.eval x = .string c) (hw : c.size ≤ maxLen) (q : Bool) (hq : S c = q)
  (hK : wpList Try.prog ops Q rest (a.put o.dst (.bool q)) w) : wpList Try.prog ops Q (o :: rest) a w := by
 subst hq
 exact wpList_sets_look hg m x hop b n S hm hs c hx hw hK
theorem wpList_sets_put {w : World} {ops : Array Oper} {rest : List Oper} {o : Oper} {a : Act} {Q : Exit → Act → World → Prop} (hg : o.guard = none) (m x y : Operand) (hop : o.op = Op.mapUpdate 106 m x y)
  (b n : Nat) (S : ByteArray → Bool) (hm : a.eval m = .map (some b)) (hs : SetS w b n S) (c : ByteArray) (hx : a.eval x = .string c) (hy : a.eval y = .bool true) (hw : c.size ≤ maxLen) (hn : n ≤ 1000000)
  (hK : ∀ w', Hid (SetS w' b (n + 1) (fun x => decide (x = c) || S x)) → Hid (w.grownBy w' (some b)) → wpList Try.prog ops Q rest (a.put o.dst undef) w') : wpList Try.prog ops Q (o :: rest) a w := by
 obtain ⟨D, h1, h3⟩ := hs
 have h2 := h1.isMap
 refine wpList_mapUpdate_own w hg m x y 106 hop 9 4 ts9_keyed Try.underlying106 heldE b n D hm h1 (by unfold maxLen; omega) _ _ _ hx hy (key_str hw) (.held (.bool true)) [] rfl ?_
 intro w' h4 h5
 exact hK w' (Lib.hid (SetS.put h2 h3 h4)) (Lib.hid h5)
open Go.RowKit Go.Maps
theorem wp_load_is {P : Program} {o : Oper} {a : Act} {w : World} {K : Act → World → Prop} {Q : Exit → Act → World → Prop} (ty : TypeId) (x : Operand) (hop : o.op = .load ty x) (p : Value) (hx : a.eval x = p) (V : Value)
  (hl : (Instr.loadAt ty p).run P w = .ok V w) (h : K (a.put o.dst V) w) : o.wp P a w K Q := by
 unfold Oper.wp execOp
 simp only [hop, hx, Sem.run_bind, hl, Sem.run_pure, Result.andThen_ok]
 exact h
def rowP (L : List Acc) (R : List Int) (G : List Ent) (i : Nat) : Bool := dsN G i && enpB L R (G.getD i ent0)
def ensP (L : List Acc) (R : List Int) (G : List Ent) : Bool := decide (1 ≤ G.length) && (decide (G.length ≤ 12) && (!(G.getD 0 ent0).jt && allTo (rowP L R G) G.length))
def SeenN (G : List Ent) (k : Nat) (S : ByteArray → Bool) : Prop := ∀ x, S x = true ↔ ∃ i, i < k ∧ (G.getD i ent0).nm = x
theorem SeenN.start {G : List Ent} : SeenN G 0 (fun _ => false) := fun x => by simp
theorem SeenN.now {G : List Ent} {k : Nat} {S : ByteArray → Bool} (h : SeenN G k S) : dsN G k = !S (G.getD k ent0).nm := by
 rw [Bool.eq_iff_iff, dsN_is, Bool.not_eq_true']
 constructor
 ·intro h1
  cases hS : S (G.getD k ent0).nm with
  | false => rfl
  | true =>
   obtain ⟨i, hi, e⟩ := (h _).1 hS
   exact absurd e (h1 i hi)
 ·intro h1 i hi e
  rw [(h _).2 ⟨i, hi, e⟩] at h1
  cases h1
theorem SeenN.step {G : List Ent} {k : Nat} {S : ByteArray → Bool} {c : ByteArray} (h : SeenN G k S) (hc : (G.getD k ent0).nm = c) : SeenN G (k + 1) (fun x => decide (x = c) || S x) := fun x => by
 rw [Bool.or_eq_true, decide_eq_true_eq, h x]
 constructor
 ·rintro (rfl | ⟨i, hi, e⟩)
  ·exact ⟨k, by omega, hc⟩
  ·exact ⟨i, by omega, e⟩
 ·rintro ⟨i, hi, e⟩
  rcases Nat.lt_or_ge i k with h1 | h1
  ·exact .inr ⟨i, h1, e⟩
  ·obtain rfl : i = k := by omega
   exact .inl (by rw [← e, hc])
set_option maxRecDepth 20000 in
set_option maxHeartbeats 3200000 in
theorem gents_any (g : Grp) (L : List Acc) (G : List Ent) (w : World) (hk : GrK w g L G) (hs : Sm g G) (hw : GrW g L G) :
  Calls Try.prog 40 #[grpV g] w fun e' w' => e' = .returned (.bool (ensP L g.R G)) ∧ Below w.heap.size w w' := by
 have hB := below_alloc_new (w := w) (.cells #[.string g.cur, .int .i64 g.cy, .int .i64 g.cm, .int .i64 g.cp, .slice g.A g.n g.c, .int .i64 g.r0, .int .i64 g.r1, .int .i64 g.r2, .int .i64 g.r3, .int .i64 g.r4, .int .i64 g.r5, .int .i64 g.r6, .int .i64 g.r7, .int .i64 g.r8, .int .i64 g.r9, .int .i64 g.r10, .int .i64 g.r11, .int .i64 g.r12, .int .i64 g.r13, .int .i64 g.r14, .slice g.E g.m g.d] 52)
 have hG := gb_new w 52 g
 have hv : ensP L g.R G = (decide (1 ≤ G.length) && (decide (G.length ≤ 12) && (!(G.getD 0 ent0).jt && allTo (rowP L g.R G) G.length))) := rfl
 rw [hk.lg] at hv
 have hrow : ∀ k, rowP L g.R G k = (dsN G k && enpB L g.R (G.getD k ent0)) := fun _ => rfl
 have h1 : ∀ k, k < g.m → ∀ w, AccAt w g.A L → EntsK w G → Calls Try.prog 53 #[grpV g, eV (G.getD k ent0)] w fun e' w' => e' = .returned (.bool (enpB L g.R (G.getD k ent0))) ∧ Below w.heap.size w w' := fun k hk2 w hz he => by
  have hm := getD_mem_acc (d := ent0) (L := G) (i := k) (by rw [hk.lg]; exact hk2)
  have := hs.e _ hm
  have := hs.n
  exact gent_any g L _ w hz hk.ln (by omega) (he _ hm) (by omega) (by omega)
 have hnm : ∀ k, k < g.m → (G.getD k ent0).nm.size ≤ maxLen := fun k hk2 => (hw.txt _ (getD_mem_acc (by rw [hk.lg]; exact hk2))).1
 have hat := fun k (hk2 : k < g.m) => ent_at hk.he (k := k) (by rw [hk.lg]; exact hk2)
 obtain ⟨X, hX⟩ : ∃ X : Value, X = grpV g := ⟨_, rfl⟩
 rw [← hX] at h1
 generalize ensP L g.R G = r at *
 obtain ⟨P, hP⟩ : ∃ P : Nat → Bool, rowP L g.R G = P := ⟨_, rfl⟩
 rw [hP] at hv
 simp only [hP] at hrow
 obtain ⟨s0, hs0⟩ : ∃ s0, w.heap.size = s0 := ⟨_, rfl⟩
 have hm14 := hs.m
 rw [hs0] at hB hG ⊢
 have HS0 := Lib.hid hs0
 have HG := Lib.hid hG
 have HX := Lib.hid hX
 have HV := Lib.hid hv
 have HRow := Lib.hid hrow
 have H1 := Lib.hid h1
 have HNM := Lib.hid hnm
 have HAt := Lib.hid hat
 have HZ := Lib.hid hk.hz
 have HEK := Lib.hid hk.hk
 have c20 := hG.c20
 clear hk hs hw hv hrow h1 hnm hat hX hP hG
 by_cases k0 : g.m = 0
 ·have e0 : ((g.m : Int) == 0) = true := by rw [k0]; rfl
  have HR : Hid (r = false) := Lib.hid (by rw [HV.out, decide_eq_false (by omega)]; rfl)
  clear k0
  go_enter Try.func40, Try.ntmps40
  go_wp2_with fail
  go_ret
  exact ⟨by rw [HR.out]; rfl, hB⟩
 have e0 : ((g.m : Int) == 0) = false := beq_eq_false_iff_ne.2 (by omega)
 clear c20 HG hB
 obtain ⟨b, off, eE, hbw, hc0⟩ := HAt.out 0 (by omega)
 have hB := below_alloc_new (w := w) (.cells #[.string g.cur, .int .i64 g.cy, .int .i64 g.cm, .int .i64 g.cp, .slice g.A g.n g.c, .int .i64 g.r0, .int .i64 g.r1, .int .i64 g.r2, .int .i64 g.r3, .int .i64 g.r4, .int .i64 g.r5, .int .i64 g.r6, .int .i64 g.r7, .int .i64 g.r8, .int .i64 g.r9, .int .i64 g.r10, .int .i64 g.r11, .int .i64 g.r12, .int .i64 g.r13, .int .i64 g.r14, .slice g.E g.m g.d] 52)
 have hG := gb_new w 52 g
 have d4 := (hc0.up (below_alloc_new (.cells #[.string g.cur, .int .i64 g.cy, .int .i64 g.cm, .int .i64 g.cp, .slice g.A g.n g.c, .int .i64 g.r0, .int .i64 g.r1, .int .i64 g.r2, .int .i64 g.r3, .int .i64 g.r4, .int .i64 g.r5, .int .i64 g.r6, .int .i64 g.r7, .int .i64 g.r8, .int .i64 g.r9, .int .i64 g.r10, .int .i64 g.r11, .int .i64 g.r12, .int .i64 g.r13, .int .i64 g.r14, .slice g.E g.m g.d] 52)) hbw).c4
 have hMB := SetS.made (w.alloc (.cells #[.string g.cur, .int .i64 g.cy, .int .i64 g.cm, .int .i64 g.cp, .slice g.A g.n g.c, .int .i64 g.r0, .int .i64 g.r1, .int .i64 g.r2, .int .i64 g.r3, .int .i64 g.r4, .int .i64 g.r5, .int .i64 g.r6, .int .i64 g.r7, .int .i64 g.r8, .int .i64 g.r9, .int .i64 g.r10, .int .i64 g.r11, .int .i64 g.r12, .int .i64 g.r13, .int .i64 g.r14, .slice g.E g.m g.d] 52))
 have e9 : (w.alloc (.cells #[.string g.cur, .int .i64 g.cy, .int .i64 g.cm, .int .i64 g.cp, .slice g.A g.n g.c, .int .i64 g.r0, .int .i64 g.r1, .int .i64 g.r2, .int .i64 g.r3, .int .i64 g.r4, .int .i64 g.r5, .int .i64 g.r6, .int .i64 g.r7, .int .i64 g.r8, .int .i64 g.r9, .int .i64 g.r10, .int .i64 g.r11, .int .i64 g.r12, .int .i64 g.r13, .int .i64 g.r14, .slice g.E g.m g.d] 52)).heap.size = s0 + 1 := by simp; omega
 have hG1 := hG.up (below_alloc_new (.map #[] 0))
 have hB1 : Below s0 w ((w.alloc (.cells #[.string g.cur, .int .i64 g.cy, .int .i64 g.cm, .int .i64 g.cp, .slice g.A g.n g.c, .int .i64 g.r0, .int .i64 g.r1, .int .i64 g.r2, .int .i64 g.r3, .int .i64 g.r4, .int .i64 g.r5, .int .i64 g.r6, .int .i64 g.r7, .int .i64 g.r8, .int .i64 g.r9, .int .i64 g.r10, .int .i64 g.r11, .int .i64 g.r12, .int .i64 g.r13, .int .i64 g.r14, .slice g.E g.m g.d] 52)).alloc (.map #[] 0)) := by rw [hs0] at hB; exact hB.alloc (by omega) _
 rw [hs0] at hB hG hG1
 rw [eE] at hB hG hG1 d4 hMB hB1 e9
 rw [e9] at hMB
 simp only [Nat.zero_mul, Nat.add_zero] at d4
 have c20 := hG.c20
 have c20' := hG1.c20
 rw [eE] at c20 c20'
 have hv2 := HV.out
 rw [decide_eq_true (show 1 ≤ g.m by omega), Bool.true_and] at hv2
 rcases Nat.lt_or_ge 12 g.m with k1 | k1
 ·have e1 : decide ((12 : Int) < (g.m : Int)) = true := decide_eq_true (by omega)
  have HR : Hid (r = false) := Lib.hid (by rw [hv2, decide_eq_false (by omega)]; rfl)
  clear k0 k1 hv2 hMB hG hG1 hbw hc0
  go_enter Try.func40, Try.ntmps40
  go_wp2_with fail
  go_ret
  exact ⟨by rw [HR.out]; rfl, hB⟩
 have e1 : decide ((12 : Int) < (g.m : Int)) = false := decide_eq_false (by omega)
 rw [decide_eq_true k1, Bool.true_and] at hv2
 have h0z : (0 : Int) < (g.m : Int) := by omega
 generalize (G.getD 0 ent0).jt = jt at *
 cases jt
 case true =>
  have HR : Hid (r = false) := Lib.hid (by rw [hv2]; rfl)
  clear k0 k1 hv2 hbw hc0 hMB hG hG1
  go_enter Try.func40, Try.ntmps40
  go_wp2_with fail
  go_ret
  exact ⟨by rw [HR.out]; rfl, hB⟩
 have HV2 := Lib.hid (show r = allTo P g.m from hv2)
 have HMB := Lib.hid hMB
 have HG1 := Lib.hid hG1
 have hmm := @run_makeMap Try.prog
 clear k0 k1 hv2 hbw hc0 HV hG hG1 hMB e9 hB
 go_enter Try.func40, Try.ntmps40
 go_wp2_with fail
 have hat2 : ∀ k, k < g.m → E5 w b (off + k * 5) (G.getD k ent0) ∧ b < w.heap.size := fun k hk => by
  obtain ⟨b', off', e', hb', hc'⟩ := HAt.out k hk
  rw [eE] at e'
  cases e'
  exact ⟨hc', hb'⟩
 have HAt2 := Lib.hid hat2
 clear HAt hat2 hs0 eE d4 c20 c20'
 go_loopg [27] g.m (fun kx s27 wr => ∃ (k m : Nat) (S : ByteArray → Bool), s27 = .int .i64 k ∧ k ≤ g.m ∧ g.m - k ≤ kx ∧ m ≤ k ∧ Hid (allTo P k = true) ∧ Hid (SeenN G k S) ∧ Hid (SetS wr (s0 + 1) m S) ∧ Hid (GB wr s0 g) ∧ Below s0 w wr)
 case atStart => exact ⟨0, 0, _, rfl, by omega, by omega, by omega, Lib.hid rfl, Lib.hid SeenN.start, HMB, HG1, hB1⟩
 case round =>
  clear hB1 HMB HG1
  obtain ⟨k, m, S, rfl, hk, hkx, hmk, HA, HSN, HM, HG, hB⟩ := hrel
  by_cases hlt : k < g.m
  ·have hltz : (k : Int) < (g.m : Int) := by omega
   have hsz : s0 ≤ wr.heap.size := by have := HG.out.lt; omega
   obtain ⟨hc5, hbw⟩ := HAt2.out k hlt
   obtain ⟨d0, d1, d2, d3, d4⟩ := hc5.up hB (by have := HS0.out; omega)
   have hnx0 := HNM.out k hlt
   have hno : P k = false → r = false := fun h => by rw [HV2.out]; exact allTo_no hlt h
   have hnx : P k = true → Hid (allTo P (k + 1) = true) := fun h => Lib.hid (by show (allTo P k && P k) = true; rw [HA.out, h]; rfl)
   have hrow := HRow.out k
   have hnow := HSN.out.now
   have hstep := fun c hc => HSN.out.step (c := c) hc
   have h1x := fun w h h' => H1.out k hlt w h h'
   obtain ⟨x, hx⟩ : ∃ x, G.getD k ent0 = x := ⟨_, rfl⟩
   rw [hx] at d0 d1 d2 d3 d4 hnx0 hrow hnow hstep h1x
   have HST := Lib.hid (hstep x.nm rfl)
   obtain ⟨q1, hq1⟩ : ∃ q, S x.nm = q := ⟨_, rfl⟩
   rw [hq1] at hnow
   rw [hnow] at hrow
   generalize enpB L g.R x = q2 at *
   generalize P k = pk at *
   have HQ := Lib.hid hq1
   have HNx := Lib.hid hnx0
   have H1x := Lib.hid h1x
   have heb := eb_new wr 71 x.nm x.cur x.A x.n x.c x.B x.m x.d x.jt
   have HEB := Lib.hid heb
   obtain ⟨z0, z1, z2, z3, z4, zlt⟩ := heb
   have HB1 : Hid (Below s0 w (wr.alloc (.cells #[.string x.nm, .string x.cur, .slice x.A x.n x.c, .slice x.B x.m x.d, .bool x.jt] 71))) := Lib.hid (hB.alloc hsz _)
   have HSZ1 : Hid (s0 ≤ (wr.alloc (.cells #[.string x.nm, .string x.cur, .slice x.A x.n x.c, .slice x.B x.m x.d, .bool x.jt] 71)).heap.size) := Lib.hid (by simp; omega)
   have HG1 := Lib.hid (HG.out.up (below_alloc_new (.cells #[.string x.nm, .string x.cur, .slice x.A x.n x.c, .slice x.B x.m x.d, .bool x.jt] 71)))
   have HM1 := Lib.hid (HM.out.up (below_alloc_new (.cells #[.string x.nm, .string x.cur, .slice x.A x.n x.c, .slice x.B x.m x.d, .bool x.jt] 71)))
   have HZ1 : Hid (AccAt (wr.alloc (.cells #[.string x.nm, .string x.cur, .slice x.A x.n x.c, .slice x.B x.m x.d, .bool x.jt] 71)) g.A L) := Lib.hid (HZ.out.up (by rw [HS0.out]; exact HB1.out))
   have HE1 : Hid (EntsK (wr.alloc (.cells #[.string x.nm, .string x.cur, .slice x.A x.n x.c, .slice x.B x.m x.d, .bool x.jt] 71)) G) := Lib.hid (HEK.out.up (by rw [HS0.out]; exact HB1.out))
   clear hx hq1 hnx0 h1x hstep hnow hc5 HA HG HM HSN hB
   cases q1
   ·cases q2
    ·have HR := Lib.hid (hno (by rw [hrow]; rfl))
     clear hno hnx hrow
     go_wp2_with (first | (refine wpList_sets_lookq rfl _ _ rfl (s0 + 1) m S rfl HM1.out x.nm rfl HNx.out _ HQ.out ?_) | (refine wpList_load_is rfl 52 _ rfl (.pointer (some ⟨s0, 0, none⟩)) rfl X (gb_lV HG1.out HX.out) ?_) | (refine wpList_load_if rfl 52 _ rfl (.pointer (some ⟨s0, 0, none⟩)) rfl X (gb_lV HG1.out HX.out) ?_) | (refine wp_load_is 52 _ rfl (.pointer (some ⟨s0, 0, none⟩)) rfl X (gb_lV HG1.out HX.out) ?_) | (go_at_call 53; (with_reducible refine (H1x.out _ HZ1.out HE1.out).mono ?_); rintro e1 w3 ⟨rfl, hb⟩; have hB3 := HB1.out.trans (hb.mono HSZ1.out); have hsz3 : s0 ≤ w3.heap.size := Nat.le_trans HSZ1.out hb.size; have HG3 := Lib.hid (HG1.out.up hb); have HM3 := Lib.hid (HM1.out.up hb); have HEB3 := HEB.out.up hb; clear hb HG1 HM1 HB1 HSZ1 z0 z1 z2 z3 z4 zlt HEB d0 d1 d2 d3 d4; obtain ⟨z0, z1, z2, z3, z4, zlt⟩ := HEB3))
     go_ret
     exact ⟨by rw [HR.out]; rfl, hB3⟩
    ·have HA2 := hnx (by rw [hrow]; rfl)
     clear hno hnx hrow
     go_wp2_with (first | (refine wpList_sets_lookq rfl _ _ rfl (s0 + 1) m S rfl HM1.out x.nm rfl HNx.out _ HQ.out ?_) | (refine wpList_load_is rfl 52 _ rfl (.pointer (some ⟨s0, 0, none⟩)) rfl X (gb_lV HG1.out HX.out) ?_) | (refine wpList_load_if rfl 52 _ rfl (.pointer (some ⟨s0, 0, none⟩)) rfl X (gb_lV HG1.out HX.out) ?_) | (refine wp_load_is 52 _ rfl (.pointer (some ⟨s0, 0, none⟩)) rfl X (gb_lV HG1.out HX.out) ?_) | (go_at_call 53; (with_reducible refine (H1x.out _ HZ1.out HE1.out).mono ?_); rintro e1 w3 ⟨rfl, hb⟩; have hB3 := HB1.out.trans (hb.mono HSZ1.out); have hsz3 : s0 ≤ w3.heap.size := Nat.le_trans HSZ1.out hb.size; have HG3 := Lib.hid (HG1.out.up hb); have HM3 := Lib.hid (HM1.out.up hb); have HEB3 := HEB.out.up hb; clear hb HG1 HM1 HB1 HSZ1 z0 z1 z2 z3 z4 zlt HEB d0 d1 d2 d3 d4; obtain ⟨z0, z1, z2, z3, z4, zlt⟩ := HEB3) | (at_mapUpdate; refine wpList_sets_put rfl _ _ _ rfl (s0 + 1) m S rfl HM3.out x.nm rfl rfl HNx.out (by omega) ?_; intro w4 hm4 hg4; have hb4 := grown_below hB3 hg4.out (by omega) hsz3; have HG4 := Lib.hid (HG3.out.blk (hg4.out.block s0 HG3.out.lt (by intro e; injection e with e; omega))); clear hg4))
     go_roundg (g.m - (k + 1))
     case measure => omega
     case rel => exact ⟨k + 1, m + 1, _, by go_num, by omega, by omega, by omega, HA2, HST, hm4, HG4, hb4⟩
   ·have HR := Lib.hid (hno (by rw [hrow]; rfl))
    have hB3 := HB1.out
    clear hno hnx hrow
    go_wp2_with (refine wpList_sets_lookq rfl _ _ rfl (s0 + 1) m S rfl HM1.out x.nm rfl HNx.out _ HQ.out ?_)
    go_ret
    exact ⟨by rw [HR.out]; rfl, hB3⟩
  ·have hke : k = g.m := by omega
   have hltz : ¬ (k : Int) < (g.m : Int) := by omega
   have HR : Hid (r = true) := Lib.hid (by rw [HV2.out, ← hke]; exact HA.out)
   clear hke
   go_wp2_with fail
   go_ret
   exact ⟨by rw [HR.out]; rfl, hB⟩
theorem setCells_size (b : Nat) : ∀ (vs : List Value) (o : Nat) (w : World), (w.setCells b o vs).heap.size = w.heap.size
 | [], _, _ => rfl
 | v :: r, o, w => by
  rw [World.setCells, setCells_size b r]
  exact World.size_setCell _ _ _
def entC (e : Ent) : List Value := [.string e.nm, .string e.cur, .slice e.A e.n e.c, .slice e.B e.m e.d, .bool e.jt]
theorem entC_get : ∀ (G : List Ent) (i : Nat), i < G.length → ∀ j, j < 5 → (G.flatMap entC)[i * 5 + j]? = (entC (G.getD i ent0))[j]?
 | [], i, h => by simp at h
 | a :: G, 0, _ => fun j hj => by
  rw [List.flatMap_cons, Nat.zero_mul, Nat.zero_add, List.getElem?_append_left (by simpa [entC] using hj)]; rfl
 | a :: G, i + 1, h => fun j hj => by
  have := entC_get G i (by simpa using h) j hj
  have e1 : (i + 1) * 5 + j = i * 5 + j + (entC a).length := by simp [entC]; omega
  rw [List.flatMap_cons, e1, List.getElem?_append_right (by omega), Nat.add_sub_cancel]
  simpa using this
theorem infoEn : (Try.prog.info? 71).map (fun i => (i.zero, i.size, i.bytes)) = some (some (.agg #[.string ⟨#[]⟩, .string ⟨#[]⟩, .slice none 0 0, .slice none 0 0, .bool false]), 5, 88) := by kernel_rfl
structure Lay (α : Type) where
 cel : α → List Value
 s : Nat
 len : ∀ a, (cel a).length = s
 one : ∀ a, ∀ v ∈ cel a, v.oneCell' = true
 pos : 0 < s
section
variable {α : Type} {R : Lay α} {w w' : World} {A : Option Addr} {L : List α} {e : TypeId} {base : Nat} {v : Value}
def Lay.all (R : Lay α) (L : List α) : List Value := L.flatMap R.cel
theorem Lay.all_len (R : Lay α) : ∀ L : List α, (R.all L).length = L.length * R.s
 | [] => by simp [Lay.all]
 | a :: L => by
  have h := Lay.all_len R L
  unfold Lay.all at h ⊢
  rw [List.flatMap_cons, List.length_append, h, R.len, List.length_cons, Nat.add_mul]
  omega
theorem Lay.get (R : Lay α) : ∀ (L : List α) (i : Nat) (a : α), L[i]? = some a → ∀ j, j < R.s → (R.all L)[i * R.s + j]? = (R.cel a)[j]?
 | [], i, a, h, _, _ => by simp at h
 | b :: L, 0, a, h, j, hj => by
  simp at h; subst h
  unfold Lay.all
  rw [List.flatMap_cons, Nat.zero_mul, Nat.zero_add, List.getElem?_append_left (by rw [R.len]; exact hj)]
 | b :: L, i + 1, a, h, j, hj => by
  have h1 := Lay.get R L i a (by simpa using h) j hj
  unfold Lay.all at h1 ⊢
  rw [List.flatMap_cons, List.getElem?_append_right (by rw [R.len, Nat.add_mul]; omega), R.len, ← h1]
  congr 1
  rw [Nat.add_mul]; omega
theorem Lay.set (R : Lay α) : ∀ (L : List α) (i j : Nat) (a a' : α) (v : Value), L[i]? = some a → (R.cel a).set j v = R.cel a' → j < R.s → (R.all L).set (i * R.s + j) v = R.all (L.set i a')
 | [], i, j, a, a', v, h, _, _ => by simp at h
 | b :: L, 0, j, a, a', v, h, h2, hj => by
  simp at h; subst h
  unfold Lay.all
  rw [List.set_cons_zero, List.flatMap_cons, List.flatMap_cons, Nat.zero_mul, Nat.zero_add, List.set_append_left _ _ (by rw [R.len]; exact hj), h2]
 | b :: L, i + 1, j, a, a', v, h, h2, hj => by
  have h1 := Lay.set R L i j a a' v (by simpa using h) h2 hj
  unfold Lay.all at h1 ⊢
  rw [List.set_cons_succ, List.flatMap_cons, List.flatMap_cons, List.set_append_right _ _ (by rw [R.len, Nat.add_mul]; omega), R.len, ← h1]
  congr 2
  rw [Nat.add_mul]; omega
theorem Lay.all_append (R : Lay α) (L M : List α) : R.all (L ++ M) = R.all L ++ R.all M := List.flatMap_append
theorem Lay.all_one (R : Lay α) (L : List α) : ∀ v ∈ R.all L, v.oneCell' = true := by
 intro v hv
 obtain ⟨a, _, ha⟩ := List.mem_flatMap.1 hv
 exact R.one a v ha
def RowAt (R : Lay α) (w : World) (A : Option Addr) (L : List α) : Prop := 0 < L.length → ∃ b off, A = some ⟨b, off, none⟩ ∧ b < w.heap.size ∧ w.rangeAt b off (R.all L)
theorem RowAt.nil : RowAt R w A [] := fun h => absurd h (by simp)
theorem RowAt.at (h : RowAt R w A L) {i : Nat} {a : α} (hi : L[i]? = some a) : ∃ b off, A = some ⟨b, off, none⟩ ∧ b < w.heap.size ∧ w.rangeAt b (off + i * R.s) (R.cel a) := by
 have hil : i < L.length := (List.getElem?_eq_some_iff.1 hi).1
 obtain ⟨b, off, e, hlt, hc⟩ := h (by omega)
 refine ⟨b, off, e, hlt, fun j v hj => ?_⟩
 have hjs : j < R.s := by
  rw [← R.len a]
  exact (List.getElem?_eq_some_iff.1 hj).1
 rw [Nat.add_assoc]
 exact hc _ _ ((R.get L i a hi j hjs).trans hj)
theorem RowAt.same (h : RowAt R w A L) (hk : ∀ g o, A = some ⟨g, o, none⟩ → w'.heap[g]? = w.heap[g]?) : RowAt R w' A L := fun h0 => by
 obtain ⟨b, off, e, hlt, hc⟩ := h h0
 have h1 := hk b off e
 refine ⟨b, off, e, ?_, fun j v hj => (World.cell?_of_block (w := w) h1).trans (hc j v hj)⟩
 rcases Nat.lt_or_ge b w'.heap.size with h2 | h2
 ·exact h2
 ·rw [Array.getElem?_eq_none h2, Array.getElem?_eq_getElem hlt] at h1; cases h1
theorem RowAt.up (h : RowAt R w A L) (hb : Below w.heap.size w w') : RowAt R w' A L := fun h0 => by
 obtain ⟨b, off, e, hlt, hc⟩ := h h0
 exact ⟨b, off, e, Nat.lt_of_lt_of_le hlt hb.size, fun j v hj => (hb.cell (p := ⟨b, off + j, none⟩) hlt).trans (hc j v hj)⟩
def OwnR (R : Lay α) (e : TypeId) (w : World) (base : Nat) (v : Value) (L : List α) : Prop := w.ownsRow base e R.s v L.length (R.all L)
theorem OwnR.nil : OwnR R e w base (.slice none 0 0) ([] : List α) := World.ownsRow_nil _ _ _ _
theorem OwnR.blk (h : OwnR R e w base v L) (hk : ∀ g, v.ownBlock = some g → w'.heap[g]? = w.heap[g]?) : OwnR R e w' base v L := by
 obtain ⟨h1, h2⟩ := h
 refine ⟨h1, ?_⟩
 rcases h2 with h2 | ⟨g, cap, cur, rfl, hbg, hg, rest⟩
 ·exact .inl h2
 ·exact .inr ⟨g, cap, cur, rfl, hbg, (hk g rfl).trans hg, rest⟩
theorem OwnR.lt (h : OwnR R e w base v L) {g : Nat} (hg : v.ownBlock = some g) : base ≤ g ∧ g < w.heap.size := World.ownsRow.lt h g hg
theorem OwnR.up (h : OwnR R e w base v L) (hb : Below w.heap.size w w') : OwnR R e w' base v L := h.blk fun g hg => hb.block g (h.lt hg).2
theorem OwnR.low {b2 : Nat} (h : OwnR R e w base v L) (hb : b2 ≤ base) : OwnR R e w b2 v L := by
 obtain ⟨h1, h2⟩ := h
 rcases h2 with h2 | ⟨g, cap, cur, rfl, hbg, hg⟩
 ·exact ⟨h1, .inl h2⟩
 ·exact ⟨h1, .inr ⟨g, cap, cur, rfl, Nat.le_trans hb hbg, hg⟩⟩
theorem OwnR.empty (hb : base ≤ w.heap.size) : OwnR R e (w.alloc (.cells #[] e)) base (.slice (some ⟨w.heap.size, 0, none⟩) 0 0) ([] : List α) :=
 ⟨by simp [Lay.all], .inr ⟨w.heap.size, 0, #[], rfl, hb, heap_alloc_new _ _, Nat.le_refl _, Nat.zero_le _, by simp, by simp [Lay.all]⟩⟩
theorem OwnR.reads (h : OwnR R e w base v L) : ∃ A c, v = .slice A L.length c ∧ RowAt R w A L ∧ (∀ g o, A = some ⟨g, o, none⟩ → v.ownBlock = some g ∧ o = 0) := by
 obtain ⟨h1, h2⟩ := h
 rcases h2 with ⟨rfl, h0⟩ | ⟨g, cap, cur, rfl, hbg, hg, hn, hcap, hsz, hcur⟩
 ·obtain rfl : L = [] := List.eq_nil_of_length_eq_zero h0
  exact ⟨none, 0, rfl, RowAt.nil, fun g o h => by cases h⟩
 ·refine ⟨_, cap, rfl, fun _ => ⟨g, 0, rfl, ?_, fun j u hj => ?_⟩, fun g' o h => by cases h; exact ⟨rfl, rfl⟩⟩
  ·rcases Nat.lt_or_ge g w.heap.size with hlt | hge
   ·exact hlt
   ·rw [Array.getElem?_eq_none hge] at hg; cases hg
  ·have hjl : j < L.length * R.s := by rw [← R.all_len]; exact (List.getElem?_eq_some_iff.1 hj).1
   rw [Nat.zero_add, ← hj, ← hcur, List.getElem?_take, if_pos hjl]
   simp only [World.cell?, hg]
   simp
theorem OwnR.setf {g n c : Nat} (h : OwnR R e w base (.slice (some ⟨g, 0, none⟩) n c) L) {i j : Nat} {a a' : α} (hi : L[i]? = some a) (hj : j < R.s) (u : Value) (hc : (R.cel a).set j u = R.cel a') : OwnR R e (w.setCell ⟨g, i * R.s + j, none⟩ u) base (.slice (some ⟨g, 0, none⟩) n c) (L.set i a') := by
 obtain ⟨h1, h2⟩ := h
 have hM := R.set L i j a a' u hi hc hj
 rcases h2 with ⟨h9, _⟩ | ⟨g', cap, cur, h9, hbg, hg, hn, hcap, hsz, hcur⟩
 ·cases h9
 ·injection h9 with h8 h7 h6
  injection h8 with h8
  injection h8 with h8 _ _
  subst h8 h7 h6
  refine ⟨R.all_len _, .inr ⟨g, c, cur.set! (i * R.s + j) u, by rw [List.length_set], hbg, ?_, by rw [List.length_set]; exact hn, hcap, by simpa using hsz, ?_⟩⟩
  ·simp [World.setCell, Array.getElem?_modify, hg]
  ·rw [List.length_set, ← hM, ← hcur]
   simp [List.take_set]
theorem row_one {x : α} {g : Nat} {t : TypeId} (h : Wh t w g (R.cel x)) : RowAt R w (some ⟨g, 0, none⟩) [x] := fun _ => ⟨g, 0, rfl, h.lt, by
 have : R.all [x] = R.cel x := by simp [Lay.all]
 rw [this]
 exact h.range⟩
theorem wp_app_row {P : Program} {o : Oper} {a : Act} {K : Act → World → Prop} {Q : Exit → Act → World → Prop} (s x : Operand) (t : TypeId)
  (ho : o.op = .call { callee := .builtin .append, args := #[s, x], argTypes := #[t, t] })
  (i : TypeInfo) (z : Value) (bytes : Nat) (ht : P.underlying t = some (.slice e)) (hi : P.info? e = some i) (hz : i.zero = some z) (hsize : i.size = R.s) (hby : i.bytes = bytes) (hb8 : bytes ≤ 1000) (hzs : z.cells.size = R.s)
  (hs : a.eval s = v) (hown : OwnR R e w base v L) (X : Option Addr) (m c : Nat) (M : List α) (hm : M.length = m) (hx : a.eval x = .slice X m c) (hX : RowAt R w X M)
  (hlen : L.length + m ≤ 100000000) (hbase : base ≤ w.heap.size)
  (h : ∀ v' w', Hid (OwnR R e w' base v' (L ++ M)) → Hid (w.grownBy w' v.ownBlock) → Hid (v'.ownBlock = v.ownBlock ∨ v'.ownBlock = some w.heap.size) → K (a.put o.dst v') w') : Oper.wp P o a w K Q := by
 subst hm
 have hbb : (L.length + M.length) * bytes ≤ (L.length + M.length) * 1000 := Nat.mul_le_mul_left _ hb8
 rcases Nat.eq_zero_or_pos M.length with h0 | h0
 ·obtain rfl : M = [] := List.eq_nil_of_length_eq_zero h0
  have hrun : (Builtin.append_ #[t, t] o.type #[v, .slice X 0 c]).run P w = .ok v w := by
   rcases hown.2 with ⟨rfl, h9⟩ | ⟨g, cap, cur, rfl, hb, hg, hn, hcap, hcs, hcur⟩
   ·cases X <;> simp [Builtin.append_, run_underlying ht, sizeOf, typeInfo, hi, Builtin.lenOf, Builtin.firstCells, loadCells, loadCellsFrom]
   ·cases X <;> simp [Builtin.append_, run_underlying ht, sizeOf, typeInfo, hi, Builtin.lenOf, Builtin.firstCells, storeCells, loadCells, loadCellsFrom, hn]
  unfold Oper.wp
  simp [execOp, ho, resolve, invoke, builtin, hs, hx, hrun, Result.andThen]
  exact h v w (Lib.hid (by simpa using hown)) (Lib.hid ⟨rfl, rfl, rfl, Nat.le_refl _, fun _ _ _ => rfl⟩) (Lib.hid (.inl rfl))
 ·obtain ⟨b, off, rfl, hlt, hc⟩ := hX h0
  obtain ⟨v', w', hr, h2, h3, h4, h5⟩ := run_append_own_at (P := P) w base t o.type e i z R.s bytes ht hi hz hsize hby hzs R.pos v L.length (R.all L) hown ⟨b, off, none⟩ M.length c (R.all M) (R.all_len M)
   (fun j u hj => by
    have hadd : (⟨b, off, none⟩ : Addr).add j = ⟨b, off + j, none⟩ := by unfold Addr.add; split <;> simp_all
    rw [hadd]
    exact hc j u hj) (R.all_one M) (by unfold maxLen; omega) (by omega) hbase
  unfold Oper.wp execOp
  simp only [ho, resolve, invoke, builtin, Sem.run_bind, Sem.run_pure, Result.andThen_ok, List.map_toArray, List.map_cons, List.map_nil, hs, hx, hr]
  refine h v' w' (Lib.hid ?_) (Lib.hid h3) (Lib.hid h5)
  unfold OwnR
  rw [List.length_append, R.all_append]
  exact h2
theorem wpList_app_row {P : Program} {ops : Array Oper} {rest : List Oper} {o : Oper} {a : Act} {Q : Exit → Act → World → Prop} (hg : o.guard = none) (s x : Operand) (t : TypeId)
  (ho : o.op = .call { callee := .builtin .append, args := #[s, x], argTypes := #[t, t] })
  (i : TypeInfo) (z : Value) (bytes : Nat) (ht : P.underlying t = some (.slice e)) (hi : P.info? e = some i) (hz : i.zero = some z) (hsize : i.size = R.s) (hby : i.bytes = bytes) (hb8 : bytes ≤ 1000) (hzs : z.cells.size = R.s)
  (hs : a.eval s = v) (hown : OwnR R e w base v L) (X : Option Addr) (m c : Nat) (M : List α) (hm : M.length = m) (hx : a.eval x = .slice X m c) (hX : RowAt R w X M)
  (hlen : L.length + m ≤ 100000000) (hbase : base ≤ w.heap.size)
  (h : ∀ v' w', Hid (OwnR R e w' base v' (L ++ M)) → Hid (w.grownBy w' v.ownBlock) → Hid (v'.ownBlock = v.ownBlock ∨ v'.ownBlock = some w.heap.size) → wpList P ops Q rest (a.put o.dst v') w') : wpList P ops Q (o :: rest) a w :=
 wpList_plain hg fun _ hK => wp_app_row s x t ho i z bytes ht hi hz hsize hby hb8 hzs hs hown X m c M hm hx hX hlen hbase fun v' w' h1 h2 h3 => hK _ _ (h v' w' h1 h2 h3)
end
theorem own_apart {α β : Type} {R : Lay α} {R' : Lay β} {w : World} {e e' : TypeId} {b b' : Nat} {v v' : Value} {L : List α} {L' : List β} (h : OwnR R e w b v L) (h2 : OwnR R' e' w b' v' L') (hne : e ≠ e') {g : Nat} (hg : v.ownBlock = some g) (hg2 : v'.ownBlock = some g) : False := by
 rcases h.2 with ⟨rfl, _⟩ | ⟨g1, _, c1, rfl, _, k1, _⟩
 ·cases hg
 rcases h2.2 with ⟨rfl, _⟩ | ⟨g2, _, c2, rfl, _, k2, _⟩
 ·cases hg2
 cases hg; cases hg2
 rw [k1] at k2
 injection k2 with k2
 injection k2 with _ k3
 exact hne k3
def lyL : Lay Lnk := ⟨celL, 3, fun _ => rfl, fun a v hv => by simp [celL] at hv; rcases hv with rfl | rfl | rfl <;> rfl, by decide⟩
def lyA : Lay Acc := ⟨celA, 4, fun _ => rfl, fun a v hv => by simp [celA] at hv; rcases hv with rfl | rfl | rfl | rfl <;> rfl, by decide⟩
def lyE : Lay Ent := ⟨entC, 5, fun _ => rfl, fun a v hv => by simp [entC] at hv; rcases hv with rfl | rfl | rfl | rfl | rfl <;> rfl, by decide⟩
def lyX : Lay Ety := ⟨etyC, 7, fun _ => rfl, fun a v hv => by simp [etyC] at hv; rcases hv with rfl | rfl | rfl | rfl | rfl | rfl | rfl <;> rfl, by decide⟩
theorem lnk_row {w : World} {A : Option Addr} {L : List Lnk} : RowAt lyL w A L ↔ LnkAt w A L := by
 constructor
 ·intro h h0
  obtain ⟨b, off, e, hlt, hc⟩ := h h0
  refine ⟨b, off, e, hlt, fun i hi => ?_⟩
  obtain ⟨k0, k1, k2⟩ := celL_get L i hi
  exact ⟨hc _ _ k0, by rw [Nat.add_assoc]; exact hc _ _ k1, by rw [Nat.add_assoc]; exact hc _ _ k2⟩
 ·intro h h0
  obtain ⟨b, off, e, hlt, hc⟩ := h h0
  refine ⟨b, off, e, hlt, fun j v hj => ?_⟩
  have hjl : j < L.length * 3 := by
   have := lyL.all_len L
   rw [show lyL.s = 3 from rfl] at this
   rw [← this]
   exact (List.getElem?_eq_some_iff.1 hj).1
  have h3 : j % 3 = 0 ∨ j % 3 = 1 ∨ j % 3 = 2 := by omega
  rw [show lyL.all L = L.flatMap celL from rfl] at hj
  rcases h3 with h2 | h2 | h2
  ·obtain ⟨q, rfl⟩ : ∃ q, j = q * 3 := ⟨j / 3, by omega⟩
   rw [(celL_get L q (by omega)).1] at hj; injection hj with hj; subst hj
   exact (hc q (by omega)).c0
  ·obtain ⟨q, rfl⟩ : ∃ q, j = q * 3 + 1 := ⟨j / 3, by omega⟩
   rw [(celL_get L q (by omega)).2.1] at hj; injection hj with hj; subst hj
   rw [← Nat.add_assoc]
   exact (hc q (by omega)).c1
  ·obtain ⟨q, rfl⟩ : ∃ q, j = q * 3 + 2 := ⟨j / 3, by omega⟩
   rw [(celL_get L q (by omega)).2.2] at hj; injection hj with hj; subst hj
   rw [← Nat.add_assoc]
   exact (hc q (by omega)).c2
def Im (S : Nat → Prop) (P : World → Prop) (w : World) : Prop := ∀ w', Only S w w' → P w'
section
variable {S T : Nat → Prop} {P P' : World → Prop} {w w' : World}
theorem Im.now (h : Im S P w) : P w := h w (Only.refl w)
theorem Im.step (h : Im S P w) (hb : Only S w w') (hST : ∀ k, k < w.heap.size → T k → S k) : Im T P w' := fun w2 h2 => by
 refine h w2 ⟨h2.os.trans hb.os, h2.tape.trans hb.tape, h2.output.trans hb.output, Nat.le_trans hb.size h2.size, fun k hk hs => ?_⟩
 exact (h2.blk k (Nat.lt_of_lt_of_le hk hb.size) (fun ht => hs (hST k hk ht))).trans (hb.blk k hk hs)
theorem Im.on (h : Im S P w) (hb : Only S w w') : Im S P w' := h.step hb fun _ _ h => h
theorem Im.of {B : Nat} (hP : ∀ w', Below B w w' → P w') (hS : ∀ k, S k → B ≤ k) (hB : B ≤ w.heap.size) : Im S P w := fun w' hb => hP w' (hb.below hS hB)
end
open Go.RowKit Go.Maps Go.ChangeMaps
def okK (k : Int × Int) : Prop := (Lit.int .i64 k.1).wf = true ∧ (Lit.int .i64 k.2).wf = true
section
variable {w w' : World} {b n m : Nat} {f : Int × Int → Option Int}
end
open Go.RowKit
theorem sumT_snoc (L : List Lnk) (x : Lnk) : sumT (L ++ [x]) = sumT L + x.tgt := by simp [sumT]
set_option maxRecDepth 20000 in
set_option maxHeartbeats 1600000 in
theorem esum_any (A : Option Addr) (cp : Nat) (L : List Lnk) (w : World) (hz : LnkAt w A L) (hl : L.length ≤ 1000) :
  Calls Try.prog 86 #[.slice A L.length cp] w fun e w' => e = .returned (.int .i64 (wr (sumT L))) ∧ Below w.heap.size w w' := by
 have hB := Below.refl w.heap.size w
 obtain ⟨n, hn⟩ : ∃ n, L.length = n := ⟨_, rfl⟩
 rw [hn] at hl ⊢
 have HN := Lib.hid hn
 have HZ := Lib.hid hz
 clear hn hz
 go_enter Try.func86, Try.ntmps86
 go_wp2_with fail
 go_loopg [3, 8] n (fun kx s3 s8 wr => ∃ k : Nat, s3 = .int .i64 (Go.Proofs.Ytbcphcheomojdaa.wr (sumT (L.take k))) ∧ s8 = .int .i64 k ∧ k ≤ n ∧ n - k ≤ kx ∧ Below w.heap.size w wr)
 case atStart => exact ⟨0, by rw [List.take_zero]; exact congrArg _ wr_zero.symm, rfl, by omega, by omega, hB⟩
 case round =>
  clear hB
  obtain ⟨k, rfl, rfl, hk, hkx, hB⟩ := hrel
  by_cases hlt : k < n
  ·have hltz : (k : Int) < (n : Int) := by omega
   obtain ⟨bb, off, rfl, hbw, hcs⟩ := HZ.out (by rw [HN.out]; omega)
   obtain ⟨c0, c1, c2⟩ := (hcs k (by rw [HN.out]; exact hlt)).up hB hbw
   have hst : wrap64 (Go.Proofs.Ytbcphcheomojdaa.wr (sumT (L.take k)) + (L.getD k lnk0).tgt) = Go.Proofs.Ytbcphcheomojdaa.wr (sumT (L.take (k + 1))) := by
    rw [take_succ_getD (d := lnk0) (show k < L.length by rw [HN.out]; exact hlt), sumT_snoc]
    exact wr_add _ _
   generalize L.getD k lnk0 = x at *
   have HST := Lib.hid hst
   have HB1 := Lib.hid (below_new hB (.cells #[.int .i64 x.frm, .int .i64 x.tgt, .int .i64 x.since] 32))
   obtain ⟨⟨d0, d1, d2⟩, dlt⟩ := lb_new wr 32 x
   simp only [Nat.zero_add] at d0 d1 d2
   clear hcs hst
   generalize Go.Proofs.Ytbcphcheomojdaa.wr (sumT (L.take k)) = s at *
   go_wp2_with fail
   go_roundg (n - (k + 1))
   case measure => omega
   case rel => exact ⟨k + 1, by rw [← HST.out], by go_num, by omega, by omega, HB1.out⟩
  ·obtain rfl : k = n := by omega
   have hltz : ¬ (k : Int) < (k : Int) := by omega
   have E : Hid (Go.Proofs.Ytbcphcheomojdaa.wr (sumT (L.take k)) = Go.Proofs.Ytbcphcheomojdaa.wr (sumT L)) := Lib.hid (by rw [← HN.out, List.take_length])
   generalize Go.Proofs.Ytbcphcheomojdaa.wr (sumT (L.take k)) = z at *
   go_wp2_with fail
   go_ret
   exact ⟨by rw [E.out]; rfl, hB⟩
theorem pr_bad {y m k : Int} (n : Int) (h : clV y m k = false) : prN y m k n = 0 ∧ prE y m k n = 1 := by
 unfold prN prE
 rw [h]
 exact ⟨rfl, rfl⟩
theorem pr_no {y m k n : Int} (h : clV y m k = true) (hi : inP y m k n = false) : prN y m k n = 0 ∧ prE y m k n = 2 := by
 unfold prN prE
 rw [h, hi]
 exact ⟨rfl, rfl⟩
theorem pr_yes {y m k n : Int} (h : clV y m k = true) (hi : inP y m k n = true) : prN y m k n = mth n - mno y m ∧ prE y m k n = 0 := by
 unfold prN prE
 rw [h, hi]
 exact ⟨rfl, rfl⟩
theorem cnum7_any (y m : Int) (w : World) (hy : 1900 ≤ y ∧ y ≤ 2199 ∧ 1 ≤ m ∧ m ≤ 12) : Calls Try.prog 60 #[.int .i64 y, .int .i64 m] w fun e w' => e = .returned (.int .i64 (mno y m)) ∧ w = w' := by
 obtain ⟨y0, y1, m0, m1⟩ := hy
 unfold mno
 go_enter Try.func60, Try.ntmps60
 go_wp2_with fail
 go_ret
 exact ⟨rfl, rfl⟩
theorem cciv7_any (T : Int) (w : World) (h : 0 ≤ T ∧ T ≤ 100000) : Calls Try.prog 47 #[.int .i64 T] w fun e w' => e = .returned (.tuple #[.int .i64 (T / 12), .int .i64 (T % 12 + 1)]) ∧ w = w' := by
 obtain ⟨h0, h1⟩ := h
 go_enter Try.func47, Try.ntmps47
 go_wp2_with fail
 go_ret2
 exact ⟨rfl, rfl⟩
theorem cmon7_any (y m k p : Int) (w : World) (hy : 1900 ≤ y ∧ y ≤ 2199 ∧ 1 ≤ m ∧ m ≤ 12) (hp : -1000 ≤ p ∧ p ≤ 1000) : Calls Try.prog 48 #[calV y m k, .int .i64 p] w fun e w' => e = .returned (.int .i64 (mno y m + p)) ∧ Below w.heap.size w w' := by
 obtain ⟨tn, bn⟩ := tri_new w 46 y m k
 have HT := Lib.hid tn
 obtain ⟨c0, c1, c2, lt⟩ := tn
 have h1 := fun w => cnum7_any y m w hy
 have hb : 22800 ≤ mno y m ∧ mno y m ≤ 26399 := by unfold mno; omega
 have H1 := Lib.hid h1
 generalize mno y m = N at *
 obtain ⟨b0, b1⟩ := hb
 obtain ⟨p0, p1⟩ := hp
 clear h1 hy
 go_enter Try.func48, Try.ntmps48
 go_wp2_with (go_at_call 60; refine (H1.out _).mono ?_; rintro e w' ⟨rfl, rfl⟩)
 go_ret
 exact ⟨rfl, bn⟩
theorem cisp7_any (y m k p : Int) (w : World) : Calls Try.prog 92 #[calV y m k, .int .i64 p] w fun e w' => e = .returned (.bool (decide (0 ≤ p) && decide (p < k))) ∧ Below w.heap.size w w' := by
 obtain ⟨tn, bn⟩ := tri_new w 46 y m k
 have HT := Lib.hid tn
 obtain ⟨c0, c1, c2, lt⟩ := tn
 by_cases h0 : 0 ≤ p
 ·rw [decide_eq_true h0]
  go_enter Try.func92, Try.ntmps92
  go_wp2_with fail
  go_ret
  exact ⟨rfl, bn⟩
 ·rw [decide_eq_false h0]
  have h0' : p < 0 := by omega
  clear h0
  go_enter Try.func92, Try.ntmps92
  go_wp2_with fail
  go_ret
  exact ⟨rfl, bn⟩
theorem cmof7_no (n : Int) (w : World) (h : vdB n = false) : Calls Try.prog 91 #[.int .i64 n] w fun e w' => e = .returned (.tuple #[.int .i64 0, .int .i64 2]) ∧ Below w.heap.size w w' := by
 have bn := Below.refl w.heap.size w
 have h1 := fun w => civ_no n w h
 have H1 := Lib.hid h1
 clear h1
 go_enter Try.func91, Try.ntmps91
 go_wp2_with (go_at_call 94; refine (H1.out _).mono ?_; rintro e w' ⟨rfl, rfl⟩)
 go_ret2
 exact ⟨rfl, bn⟩
theorem cmof7_yes (n : Int) (w : World) (h : vdB n = true) : Calls Try.prog 91 #[.int .i64 n] w fun e w' => e = .returned (.tuple #[.int .i64 (mth n), .int .i64 0]) ∧ Below w.heap.size w w' := by
 have bn := Below.refl w.heap.size w
 have h1 := fun w => civ_any n w h
 have hc := civ_is h
 have h2 := fun w => cnum7_any (civY n) (civM n) w ⟨hc.y0, hc.y1, hc.m0, hc.m1⟩
 unfold mth
 have H1 := Lib.hid h1
 have H2 := Lib.hid h2
 clear h1 h2 hc
 go_enter Try.func91, Try.ntmps91
 go_wp2_with (first | (go_at_call 94; refine (H1.out _).mono ?_; rintro e w' ⟨rfl, hb⟩; replace bn := below_more bn hb; clear hb) | (go_at_call 60; refine (H2.out _).mono ?_; rintro e w' ⟨rfl, rfl⟩))
 go_ret2
 exact ⟨rfl, bn⟩
theorem cvalid7_any (y m k : Int) (w : World) : Calls Try.prog 37 #[calV y m k] w fun e w' => e = .returned (.bool (clV y m k)) ∧ Below w.heap.size w w' := by
 obtain ⟨tn, bn⟩ := tri_new w 46 y m k
 have HT := Lib.hid tn
 obtain ⟨c0, c1, c2, lt⟩ := tn
 have h1 := fun w => days_any y m w
 unfold clV fiB
 cases hi : inYM y m
 ·rw [dys_out hi] at h1
  rw [Bool.false_and, Bool.and_false, Bool.and_false]
  have H1 := Lib.hid h1
  clear h1 hi
  go_enter Try.func37, Try.ntmps37
  go_wp2_with (go_at_call 46; refine (H1.out _).mono ?_; rintro e w' ⟨rfl, hb⟩; replace bn := below_more bn hb; replace HT := Lib.hid (HT.out.up hb); clear c0 c1 c2 lt hb; obtain ⟨c0, c1, c2, lt⟩ := HT.out)
  go_ret
  exact ⟨rfl, bn⟩
 ·obtain ⟨y0, y1, m0, m1⟩ := inYM_iff.1 hi
  have hd := mdy_bd y m
  rw [dys_in hi] at h1
  have hne : (mdy y m == 0) = false := by rw [beq_eq_false_iff_ne]; omega
  generalize mdy y m = dd at *
  have H1 := Lib.hid h1
  clear h1
  by_cases k0 : 1 ≤ k
  ·by_cases k1 : k ≤ 120
   ·have h2 := fun w => cmon7_any y m k (k - 1) w ⟨y0, y1, m0, m1⟩ (by omega)
    have e0 : mno y m = 12 * y + m - 1 := rfl
    have h3 := fun w => cciv7_any (mno y m + (k - 1)) w (by omega)
    have h4 := fun w => days_any ((mno y m + (k - 1)) / 12) ((mno y m + (k - 1)) % 12 + 1) w
    rw [decide_eq_true k0, decide_eq_true k1, Bool.true_and, Bool.true_and, Bool.true_and, decide_eq_true (show 22800 ≤ mno y m + (k - 1) by omega), Bool.true_and]
    have k0' : decide (k < 1) = false := decide_eq_false (by omega)
    have k1' : decide (120 < k) = false := decide_eq_false (by omega)
    have ht : decide (0 < dys ((mno y m + (k - 1)) / 12) ((mno y m + (k - 1)) % 12 + 1)) = decide (mno y m + (k - 1) ≤ 26399) := by
     cases hj : inYM ((mno y m + (k - 1)) / 12) ((mno y m + (k - 1)) % 12 + 1)
     ·rw [dys_out hj]
      have : ¬ (mno y m + (k - 1) ≤ 26399) := fun hc => by rw [inYM_iff.2 ⟨by omega, by omega, by omega, by omega⟩] at hj; cases hj
      rw [decide_eq_false this]; rfl
     ·have h5 := inYM_iff.1 hj
      have h6 := mdy_bd ((mno y m + (k - 1)) / 12) ((mno y m + (k - 1)) % 12 + 1)
      rw [dys_in hj, decide_eq_true (show mno y m + (k - 1) ≤ 26399 by omega), decide_eq_true (by omega)]
    rw [← ht]
    clear ht e0
    generalize dys ((mno y m + (k - 1)) / 12) ((mno y m + (k - 1)) % 12 + 1) = d2 at *
    generalize mno y m + (k - 1) = T at *
    have H2 := Lib.hid h2
    have H3 := Lib.hid h3
    have H4 := Lib.hid h4
    generalize T % 12 + 1 = b2 at *
    generalize T / 12 = a2 at *
    clear h2 h3 h4 hi y0 y1 m0 m1
    go_enter Try.func37, Try.ntmps37
    go_wp2_with (first | (go_at_call 46; first | (with_reducible refine (H1.out _).mono ?_; rintro e w' ⟨rfl, hb⟩; replace bn := below_more bn hb; replace HT := Lib.hid (HT.out.up hb); clear c0 c1 c2 lt hb; obtain ⟨c0, c1, c2, lt⟩ := HT.out) | (with_reducible refine (H4.out _).mono ?_; rintro e w' ⟨rfl, hb⟩; replace bn := below_more bn hb; replace HT := Lib.hid (HT.out.up hb); clear c0 c1 c2 lt hb; obtain ⟨c0, c1, c2, lt⟩ := HT.out)) | (go_at_call 48; refine (H2.out _).mono ?_; rintro e w' ⟨rfl, hb⟩; replace bn := below_more bn hb; replace HT := Lib.hid (HT.out.up hb); clear c0 c1 c2 lt hb; obtain ⟨c0, c1, c2, lt⟩ := HT.out) | (go_at_call 47; refine (H3.out _).mono ?_; rintro e w' ⟨rfl, rfl⟩))
    go_ret
    exact ⟨rfl, bn⟩
   ·rw [decide_eq_true k0, decide_eq_false k1]
    have k0' : decide (k < 1) = false := decide_eq_false (by omega)
    have k1' : 120 < k := by omega
    clear k1 hi y0 y1 m0 m1
    go_enter Try.func37, Try.ntmps37
    go_wp2_with (go_at_call 46; refine (H1.out _).mono ?_; rintro e w' ⟨rfl, hb⟩; replace bn := below_more bn hb; replace HT := Lib.hid (HT.out.up hb); clear c0 c1 c2 lt hb; obtain ⟨c0, c1, c2, lt⟩ := HT.out)
    go_ret
    exact ⟨rfl, bn⟩
  ·rw [decide_eq_false k0]
   have k0' : k < 1 := by omega
   clear k0 hi y0 y1 m0 m1
   go_enter Try.func37, Try.ntmps37
   go_wp2_with (go_at_call 46; refine (H1.out _).mono ?_; rintro e w' ⟨rfl, hb⟩; replace bn := below_more bn hb; replace HT := Lib.hid (HT.out.up hb); clear c0 c1 c2 lt hb; obtain ⟨c0, c1, c2, lt⟩ := HT.out)
   go_ret
   exact ⟨rfl, bn⟩
theorem cperiod7_any (y m k n : Int) (w : World) : Calls Try.prog 85 #[calV y m k, .int .i64 n] w fun e w' => e = .returned (.tuple #[.int .i64 (prN y m k n), .int .i64 (prE y m k n)]) ∧ Below w.heap.size w w' := by
 obtain ⟨tn, bn⟩ := tri_new w 46 y m k
 have HT := Lib.hid tn
 obtain ⟨c0, c1, c2, lt⟩ := tn
 have h1 := fun w => cvalid7_any y m k w
 cases hv : clV y m k
 ·rw [(pr_bad n hv).1, (pr_bad n hv).2]
  rw [hv] at h1
  have H1 := Lib.hid h1
  clear h1 hv
  go_enter Try.func85, Try.ntmps85
  go_wp2_with (go_at_call 37; refine (H1.out _).mono ?_; rintro e w' ⟨rfl, hb⟩; replace bn := below_more bn hb; replace HT := Lib.hid (HT.out.up hb); clear c0 c1 c2 lt hb; obtain ⟨c0, c1, c2, lt⟩ := HT.out)
  go_ret2
  exact ⟨rfl, bn⟩
 ·rw [hv] at h1
  have H1 := Lib.hid h1
  clear h1
  cases hd : vdB n
  ·have h2 := fun w => cmof7_no n w hd
   obtain ⟨e1, e2⟩ := pr_no (n := n) hv (by unfold inP; rw [hd]; rfl)
   rw [e1, e2]
   have H2 := Lib.hid h2
   clear h2 hd hv e1 e2
   go_enter Try.func85, Try.ntmps85
   go_wp2_with (first | (go_at_call 37; refine (H1.out _).mono ?_; rintro e w' ⟨rfl, hb⟩; replace bn := below_more bn hb; replace HT := Lib.hid (HT.out.up hb); clear c0 c1 c2 lt hb; obtain ⟨c0, c1, c2, lt⟩ := HT.out) | (go_at_call 91; refine (H2.out _).mono ?_; rintro e w' ⟨rfl, hb⟩; replace bn := below_more bn hb; replace HT := Lib.hid (HT.out.up hb); clear c0 c1 c2 lt hb; obtain ⟨c0, c1, c2, lt⟩ := HT.out))
   go_ret2
   exact ⟨rfl, bn⟩
  ·have h2 := fun w => cmof7_yes n w hd
   obtain ⟨ym, -⟩ := (clV_iff.1 hv).2
   have h3 := fun w => cmon7_any y m k 0 w ym (by omega)
   have h4 := fun w => cisp7_any y m k (mth n - mno y m) w
   rw [Int.add_zero] at h3
   obtain ⟨t0, t1, -⟩ := mth_is hd
   have e0 : mno y m = 12 * y + m - 1 := rfl
   have hb : 22800 ≤ mno y m ∧ mno y m ≤ 26399 := by omega
   cases hi : inP y m k n
   ·obtain ⟨e1, e2⟩ := pr_no hv hi
    rw [e1, e2]
    unfold inP at hi
    rw [hd, Bool.true_and] at hi
    rw [hi] at h4
    have H2 := Lib.hid h2
    have H3 := Lib.hid h3
    have H4 := Lib.hid h4
    clear h2 h3 h4 hd hv e1 e2 hi e0 ym
    generalize mth n = t at *
    generalize mno y m = N at *
    obtain ⟨b0, b1⟩ := hb
    go_enter Try.func85, Try.ntmps85
    go_wp2_with (first | (go_at_call 37; refine (H1.out _).mono ?_; rintro e w' ⟨rfl, hb⟩; replace bn := below_more bn hb; replace HT := Lib.hid (HT.out.up hb); clear c0 c1 c2 lt hb; obtain ⟨c0, c1, c2, lt⟩ := HT.out) | (go_at_call 91; refine (H2.out _).mono ?_; rintro e w' ⟨rfl, hb⟩; replace bn := below_more bn hb; replace HT := Lib.hid (HT.out.up hb); clear c0 c1 c2 lt hb; obtain ⟨c0, c1, c2, lt⟩ := HT.out) | (go_at_call 48; refine (H3.out _).mono ?_; rintro e w' ⟨rfl, hb⟩; replace bn := below_more bn hb; replace HT := Lib.hid (HT.out.up hb); clear c0 c1 c2 lt hb; obtain ⟨c0, c1, c2, lt⟩ := HT.out) | (go_at_call 92; refine (H4.out _).mono ?_; rintro e w' ⟨rfl, hb⟩; replace bn := below_more bn hb; replace HT := Lib.hid (HT.out.up hb); clear c0 c1 c2 lt hb; obtain ⟨c0, c1, c2, lt⟩ := HT.out))
    go_ret2
    exact ⟨rfl, bn⟩
   ·obtain ⟨e1, e2⟩ := pr_yes hv hi
    rw [e1, e2]
    unfold inP at hi
    rw [hd, Bool.true_and] at hi
    rw [hi] at h4
    have H2 := Lib.hid h2
    have H3 := Lib.hid h3
    have H4 := Lib.hid h4
    clear h2 h3 h4 hd hv e1 e2 hi e0 ym
    generalize mth n = t at *
    generalize mno y m = N at *
    obtain ⟨b0, b1⟩ := hb
    go_enter Try.func85, Try.ntmps85
    go_wp2_with (first | (go_at_call 37; refine (H1.out _).mono ?_; rintro e w' ⟨rfl, hb⟩; replace bn := below_more bn hb; replace HT := Lib.hid (HT.out.up hb); clear c0 c1 c2 lt hb; obtain ⟨c0, c1, c2, lt⟩ := HT.out) | (go_at_call 91; refine (H2.out _).mono ?_; rintro e w' ⟨rfl, hb⟩; replace bn := below_more bn hb; replace HT := Lib.hid (HT.out.up hb); clear c0 c1 c2 lt hb; obtain ⟨c0, c1, c2, lt⟩ := HT.out) | (go_at_call 48; refine (H3.out _).mono ?_; rintro e w' ⟨rfl, hb⟩; replace bn := below_more bn hb; replace HT := Lib.hid (HT.out.up hb); clear c0 c1 c2 lt hb; obtain ⟨c0, c1, c2, lt⟩ := HT.out) | (go_at_call 92; refine (H4.out _).mono ?_; rintro e w' ⟨rfl, hb⟩; replace bn := below_more bn hb; replace HT := Lib.hid (HT.out.up hb); clear c0 c1 c2 lt hb; obtain ⟨c0, c1, c2, lt⟩ := HT.out))
    go_ret2
    exact ⟨rfl, bn⟩
def grpP (g : Grp) (L : List Acc) (G : List Ent) : Bool := curB g.cur && (clV g.cy g.cm g.cp && (chaB L && (rlsB L g.R && ensP L g.R G)))
set_option maxRecDepth 20000 in
set_option maxHeartbeats 3200000 in
theorem gvalid_any (g : Grp) (L : List Acc) (G : List Ent) (w : World) (hk : GrK w g L G) (hs : Sm g G) (hw : GrW g L G) :
  Calls Try.prog 28 #[grpV g] w fun e' w' => e' = .returned (.bool (grpP g L G)) ∧ Below w.heap.size w w' := by
 have hB := below_alloc_new (w := w) (.cells #[.string g.cur, .int .i64 g.cy, .int .i64 g.cm, .int .i64 g.cp, .slice g.A g.n g.c, .int .i64 g.r0, .int .i64 g.r1, .int .i64 g.r2, .int .i64 g.r3, .int .i64 g.r4, .int .i64 g.r5, .int .i64 g.r6, .int .i64 g.r7, .int .i64 g.r8, .int .i64 g.r9, .int .i64 g.r10, .int .i64 g.r11, .int .i64 g.r12, .int .i64 g.r13, .int .i64 g.r14, .slice g.E g.m g.d] 52)
 have hG := gb_new w 52 g
 have hk2 := hk.up hB
 have hn := hs.n
 have h1 := fun w => gcur_any g.cur w
 have h2 := fun w => cvalid7_any g.cy g.cm g.cp w
 have h3 : ∀ w, AccAt w g.A L → Calls Try.prog 38 #[.slice g.A g.n g.c] w fun e' w' => e' = .returned (.bool (chaB L)) ∧ Below w.heap.size w w' := fun w h => by
  have h9 := gcha_any g.A g.c L w h (by have := hk.ln; omega)
  rw [hk.ln] at h9
  exact h9
 have h4 := fun w h => groles_any g L w h hk.ln (by omega) hw.rol
 have h5 := fun w h => gents_any g L G w h hs hw
 have hv : grpP g L G = (curB g.cur && (clV g.cy g.cm g.cp && (chaB L && (rlsB L g.R && ensP L g.R G)))) := rfl
 obtain ⟨X, hX⟩ : ∃ X : Value, X = grpV g := ⟨_, rfl⟩
 rw [← hX] at h4 h5
 generalize grpP g L G = r at *
 generalize curB g.cur = q1 at *
 generalize clV g.cy g.cm g.cp = q2 at *
 generalize chaB L = q3 at *
 generalize rlsB L g.R = q4 at *
 generalize ensP L g.R G = q5 at *
 obtain ⟨s0, hs0⟩ : ∃ s0, w.heap.size = s0 := ⟨_, rfl⟩
 have hs1 : s0 ≤ (w.alloc (.cells #[.string g.cur, .int .i64 g.cy, .int .i64 g.cm, .int .i64 g.cp, .slice g.A g.n g.c, .int .i64 g.r0, .int .i64 g.r1, .int .i64 g.r2, .int .i64 g.r3, .int .i64 g.r4, .int .i64 g.r5, .int .i64 g.r6, .int .i64 g.r7, .int .i64 g.r8, .int .i64 g.r9, .int .i64 g.r10, .int .i64 g.r11, .int .i64 g.r12, .int .i64 g.r13, .int .i64 g.r14, .slice g.E g.m g.d] 52)).heap.size := by simp; omega
 rw [hs0] at hB hG ⊢
 have HX := Lib.hid hX
 have HG := Lib.hid hG
 have HK := Lib.hid hk2
 have HSZ := Lib.hid hs1
 have HCU := Lib.hid h1
 have HCL := Lib.hid h2
 have HCH := Lib.hid h3
 have HRO := Lib.hid h4
 have HEN := Lib.hid h5
 have HV := Lib.hid hv
 have c0 := hG.c0
 have c1 := hG.c1
 have c2 := hG.c2
 have c3 := hG.c3
 have c4 := hG.c4
 clear hk hs hw hG hk2 hn h1 h2 h3 h4 h5 hv hX hs1
 cases q1
 ·go_enter Try.func28, Try.ntmps28
  go_wp2_with (first | (go_at_call 36; refine (HCU.out _).mono ?_; rintro e1 w1 ⟨rfl, rfl⟩))
  go_ret
  exact ⟨by rw [HV.out]; rfl, hB⟩
 cases q2
 ·go_enter Try.func28, Try.ntmps28
  go_wp2_with (first | (go_at_call 36; refine (HCU.out _).mono ?_; rintro e1 w1 ⟨rfl, rfl⟩) | (go_at_call 37; refine (HCL.out _).mono ?_; rintro e1 w1 ⟨rfl, hb⟩; have hB9 := hB.trans (hb.mono HSZ.out); have HSZ9 := Lib.hid (Nat.le_trans HSZ.out hb.size); have HG9 := Lib.hid (HG.out.up hb); have HK9 := Lib.hid (HK.out.up hb); clear hb hB HSZ HG HK c0 c1 c2 c3 c4; have hB := hB9; have HSZ := HSZ9; have HG := HG9; have HK := HK9; clear hB9 HSZ9 HG9 HK9; have c0 := HG.out.c0; have c1 := HG.out.c1; have c2 := HG.out.c2; have c3 := HG.out.c3; have c4 := HG.out.c4))
  go_ret
  exact ⟨by rw [HV.out]; rfl, hB⟩
 cases q3
 ·go_enter Try.func28, Try.ntmps28
  go_wp2_with (first | (go_at_call 36; refine (HCU.out _).mono ?_; rintro e1 w1 ⟨rfl, rfl⟩) | (go_at_call 37; refine (HCL.out _).mono ?_; rintro e1 w1 ⟨rfl, hb⟩; have hB9 := hB.trans (hb.mono HSZ.out); have HSZ9 := Lib.hid (Nat.le_trans HSZ.out hb.size); have HG9 := Lib.hid (HG.out.up hb); have HK9 := Lib.hid (HK.out.up hb); clear hb hB HSZ HG HK c0 c1 c2 c3 c4; have hB := hB9; have HSZ := HSZ9; have HG := HG9; have HK := HK9; clear hB9 HSZ9 HG9 HK9; have c0 := HG.out.c0; have c1 := HG.out.c1; have c2 := HG.out.c2; have c3 := HG.out.c3; have c4 := HG.out.c4) | (go_at_call 38; (with_reducible refine (HCH.out _ HK.out.hz).mono ?_); rintro e1 w2 ⟨rfl, hb⟩; have hB9 := hB.trans (hb.mono HSZ.out); have HSZ9 := Lib.hid (Nat.le_trans HSZ.out hb.size); have HG9 := Lib.hid (HG.out.up hb); have HK9 := Lib.hid (HK.out.up hb); clear hb hB HSZ HG HK c0 c1 c2 c3 c4; have hB := hB9; have HSZ := HSZ9; have HG := HG9; have HK := HK9; clear hB9 HSZ9 HG9 HK9; have c0 := HG.out.c0; have c1 := HG.out.c1; have c2 := HG.out.c2; have c3 := HG.out.c3; have c4 := HG.out.c4))
  go_ret
  exact ⟨by rw [HV.out]; rfl, hB⟩
 cases q4
 ·go_enter Try.func28, Try.ntmps28
  go_wp2_with (first | (go_at_call 36; refine (HCU.out _).mono ?_; rintro e1 w1 ⟨rfl, rfl⟩) | (go_at_call 37; refine (HCL.out _).mono ?_; rintro e1 w1 ⟨rfl, hb⟩; have hB9 := hB.trans (hb.mono HSZ.out); have HSZ9 := Lib.hid (Nat.le_trans HSZ.out hb.size); have HG9 := Lib.hid (HG.out.up hb); have HK9 := Lib.hid (HK.out.up hb); clear hb hB HSZ HG HK c0 c1 c2 c3 c4; have hB := hB9; have HSZ := HSZ9; have HG := HG9; have HK := HK9; clear hB9 HSZ9 HG9 HK9; have c0 := HG.out.c0; have c1 := HG.out.c1; have c2 := HG.out.c2; have c3 := HG.out.c3; have c4 := HG.out.c4) | (go_at_call 38; (with_reducible refine (HCH.out _ HK.out.hz).mono ?_); rintro e1 w2 ⟨rfl, hb⟩; have hB9 := hB.trans (hb.mono HSZ.out); have HSZ9 := Lib.hid (Nat.le_trans HSZ.out hb.size); have HG9 := Lib.hid (HG.out.up hb); have HK9 := Lib.hid (HK.out.up hb); clear hb hB HSZ HG HK c0 c1 c2 c3 c4; have hB := hB9; have HSZ := HSZ9; have HG := HG9; have HK := HK9; clear hB9 HSZ9 HG9 HK9; have c0 := HG.out.c0; have c1 := HG.out.c1; have c2 := HG.out.c2; have c3 := HG.out.c3; have c4 := HG.out.c4) | (refine wpList_load_is rfl 52 _ rfl (.pointer (some ⟨s0, 0, none⟩)) rfl X (gb_lV HG.out HX.out) ?_) | (refine wpList_load_if rfl 52 _ rfl (.pointer (some ⟨s0, 0, none⟩)) rfl X (gb_lV HG.out HX.out) ?_) | (refine wp_load_is 52 _ rfl (.pointer (some ⟨s0, 0, none⟩)) rfl X (gb_lV HG.out HX.out) ?_) | (go_at_call 39; (with_reducible refine (HRO.out _ HK.out.hz).mono ?_); rintro e1 w3 ⟨rfl, hb⟩; have hB9 := hB.trans (hb.mono HSZ.out); have HSZ9 := Lib.hid (Nat.le_trans HSZ.out hb.size); have HG9 := Lib.hid (HG.out.up hb); have HK9 := Lib.hid (HK.out.up hb); clear hb hB HSZ HG HK c0 c1 c2 c3 c4; have hB := hB9; have HSZ := HSZ9; have HG := HG9; have HK := HK9; clear hB9 HSZ9 HG9 HK9; have c0 := HG.out.c0; have c1 := HG.out.c1; have c2 := HG.out.c2; have c3 := HG.out.c3; have c4 := HG.out.c4))
  go_ret
  exact ⟨by rw [HV.out]; rfl, hB⟩
 go_enter Try.func28, Try.ntmps28
 go_wp2_with (first | (go_at_call 36; refine (HCU.out _).mono ?_; rintro e1 w1 ⟨rfl, rfl⟩) | (go_at_call 37; refine (HCL.out _).mono ?_; rintro e1 w1 ⟨rfl, hb⟩; have hB9 := hB.trans (hb.mono HSZ.out); have HSZ9 := Lib.hid (Nat.le_trans HSZ.out hb.size); have HG9 := Lib.hid (HG.out.up hb); have HK9 := Lib.hid (HK.out.up hb); clear hb hB HSZ HG HK c0 c1 c2 c3 c4; have hB := hB9; have HSZ := HSZ9; have HG := HG9; have HK := HK9; clear hB9 HSZ9 HG9 HK9; have c0 := HG.out.c0; have c1 := HG.out.c1; have c2 := HG.out.c2; have c3 := HG.out.c3; have c4 := HG.out.c4) | (go_at_call 38; (with_reducible refine (HCH.out _ HK.out.hz).mono ?_); rintro e1 w2 ⟨rfl, hb⟩; have hB9 := hB.trans (hb.mono HSZ.out); have HSZ9 := Lib.hid (Nat.le_trans HSZ.out hb.size); have HG9 := Lib.hid (HG.out.up hb); have HK9 := Lib.hid (HK.out.up hb); clear hb hB HSZ HG HK c0 c1 c2 c3 c4; have hB := hB9; have HSZ := HSZ9; have HG := HG9; have HK := HK9; clear hB9 HSZ9 HG9 HK9; have c0 := HG.out.c0; have c1 := HG.out.c1; have c2 := HG.out.c2; have c3 := HG.out.c3; have c4 := HG.out.c4) | (refine wpList_load_is rfl 52 _ rfl (.pointer (some ⟨s0, 0, none⟩)) rfl X (gb_lV HG.out HX.out) ?_) | (refine wpList_load_if rfl 52 _ rfl (.pointer (some ⟨s0, 0, none⟩)) rfl X (gb_lV HG.out HX.out) ?_) | (refine wp_load_is 52 _ rfl (.pointer (some ⟨s0, 0, none⟩)) rfl X (gb_lV HG.out HX.out) ?_) | (go_at_call 39; (with_reducible refine (HRO.out _ HK.out.hz).mono ?_); rintro e1 w3 ⟨rfl, hb⟩; have hB9 := hB.trans (hb.mono HSZ.out); have HSZ9 := Lib.hid (Nat.le_trans HSZ.out hb.size); have HG9 := Lib.hid (HG.out.up hb); have HK9 := Lib.hid (HK.out.up hb); clear hb hB HSZ HG HK c0 c1 c2 c3 c4; have hB := hB9; have HSZ := HSZ9; have HG := HG9; have HK := HK9; clear hB9 HSZ9 HG9 HK9; have c0 := HG.out.c0; have c1 := HG.out.c1; have c2 := HG.out.c2; have c3 := HG.out.c3; have c4 := HG.out.c4) | (go_at_call 40; (with_reducible refine (HEN.out _ HK.out).mono ?_); rintro e1 w4 ⟨rfl, hb⟩; have hB9 := hB.trans (hb.mono HSZ.out); have HSZ9 := Lib.hid (Nat.le_trans HSZ.out hb.size); have HG9 := Lib.hid (HG.out.up hb); have HK9 := Lib.hid (HK.out.up hb); clear hb hB HSZ HG HK c0 c1 c2 c3 c4; have hB := hB9; have HSZ := HSZ9; have HG := HG9; have HK := HK9; clear hB9 HSZ9 HG9 HK9; have c0 := HG.out.c0; have c1 := HG.out.c1; have c2 := HG.out.c2; have c3 := HG.out.c3; have c4 := HG.out.c4))
 go_ret
 exact ⟨by rw [HV.out]; rfl, hB⟩
def entIn (g : Grp) (i : Int) : Bool := decide (0 ≤ i) && decide (i < g.m)
def orgB (kind of_ : Int) : Bool := if kind = 1 ∨ kind = 2 then decide (of_ = 0) else if kind = 3 then decide (1 ≤ of_) else false
def ptB (g : Grp) (e p : Int) : Bool := decide (p = -1) || (entIn g p && !decide (p = e))
set_option maxRecDepth 100000 in
set_option maxHeartbeats 1600000 in
theorem gisent_any (g : Grp) (x : Ety) (V : Value) (hV : V = cdV g x) (i : Int) (w : World) : Calls Try.prog 81 #[V, .int .i64 i] w fun e w' => e = .returned (.bool (entIn g i)) ∧ Below w.heap.size w w' := by
 have HV := Lib.hid hV
 have c20e : (cdC g x)[20]? = some (.slice g.E g.m g.d) := rfl
 have HC := Lib.hid c20e
 clear hV c20e
 unfold entIn
 rcases Int.lt_or_le i 0 with h1 | h1
 ·have e1 : decide (0 ≤ i) = false := decide_eq_false (by omega)
  rw [e1, Bool.false_and]
  go_enter Try.func81, Try.ntmps81
  go_wp2_with (refine wpList_box_rg rfl 112 (.tmp 0) rfl V rfl (cdC g x) HV.out ?_; intro b W hR hB; have c20 := hR.out.cell 20 _ HC.out)
  go_ret
  exact ⟨by first | rfl | simp, hB.out⟩
 ·have e1 : decide (0 ≤ i) = true := decide_eq_true h1
  rcases Int.lt_or_le i g.m with h2 | h2
  ·have e2 : decide (i < g.m) = true := decide_eq_true h2
   rw [e1, e2, Bool.true_and]
   go_enter Try.func81, Try.ntmps81
   go_wp2_with (refine wpList_box_rg rfl 112 (.tmp 0) rfl V rfl (cdC g x) HV.out ?_; intro b W hR hB; have c20 := hR.out.cell 20 _ HC.out)
   go_ret
   exact ⟨by first | rfl | simp, hB.out⟩
  ·have e2 : decide (i < g.m) = false := decide_eq_false (by omega)
   have e3 : ¬ i < g.m := by omega
   rw [e1, e2, Bool.true_and]
   go_enter Try.func81, Try.ntmps81
   go_wp2_with (refine wpList_box_rg rfl 112 (.tmp 0) rfl V rfl (cdC g x) HV.out ?_; intro b W hR hB; have c20 := hR.out.cell 20 _ HC.out)
   go_ret
   exact ⟨by first | rfl | simp, hB.out⟩
theorem cd_load {w : World} {b : Nat} {g : Grp} {x : Ety} {V : Value} (h : Rg w b (cdC g x)) (hV : V = cdV g x) : (Instr.loadAt 112 (.pointer (some ⟨b, 0, none⟩))).run Try.prog w = .ok V w := by
 rw [hV]
 exact h.load 0 112 (cdC g x) rfl _ Try.underlying112 rfl (by kernel_rfl)
theorem cd_grp {w : World} {b : Nat} {g : Grp} {x : Ety} {V : Value} (h : Rg w b (cdC g x)) (hV : V = grpV g) : (Instr.loadAt 52 (.pointer (some ⟨b, 0, none⟩))).run Try.prog w = .ok V w := by
 rw [hV, grpV_is]
 exact h.load 0 52 (grpC g) rfl _ Try.underlying52 rfl (by kernel_rfl)
theorem cd_cal {w : World} {b : Nat} {g : Grp} {x : Ety} (h : Rg w b (cdC g x)) : (Instr.loadAt 46 (.pointer (some ⟨b, 1, none⟩))).run Try.prog w = .ok (.agg #[.int .i64 g.cy, .int .i64 g.cm, .int .i64 g.cp]) w :=
 h.load 1 46 [.int .i64 g.cy, .int .i64 g.cm, .int .i64 g.cp] rfl _ Try.underlying46 rfl (by kernel_rfl)
theorem cd_ety {w : World} {b : Nat} {g : Grp} {x : Ety} (h : Rg w b (cdC g x)) : (Instr.loadAt 24 (.pointer (some ⟨b, 21, none⟩))).run Try.prog w = .ok (etyV x) w :=
 h.load 21 24 (etyC x) rfl _ Try.underlying24 rfl (by kernel_rfl)
theorem cd_open (g : Grp) (x : Ety) (w : World) : ∃ cs : Array Value, cdV g x = .agg cs ∧ (cdC g x).toArray = cs ∧ Hid (Rg (w.alloc (.cells cs 112)) w.heap.size (cdC g x)) ∧ Hid (Below w.heap.size w (w.alloc (.cells cs 112))) :=
 ⟨_, rfl, rfl, Lib.hid (rg_new w _ _), Lib.hid (below_alloc_new _)⟩
set_option maxRecDepth 100000 in
set_option maxHeartbeats 1600000 in
theorem gispart_any (g : Grp) (x : Ety) (V : Value) (hV : V = cdV g x) (p : Int) (w : World) : Calls Try.prog 84 #[V, .int .i64 p] w fun e w' => e = .returned (.bool (ptB g x.ent p)) ∧ Below w.heap.size w w' := by
 have HQ := Lib.hid (fun W => gisent_any g x V hV p W)
 obtain ⟨cs, h1, -, hR, hB⟩ := cd_open g x w
 rw [h1] at hV
 have c22 := hR.out.cell 22 _ rfl
 have HL := Lib.hid (cd_load hR.out h1.symm)
 subst hV
 clear h1
 unfold ptB
 by_cases h1 : p = -1
 ·subst h1
  have e1 : decide ((-1 : Int) = -1) = true := by decide
  rw [e1, Bool.true_or]
  go_enter Try.func84, Try.ntmps84
  go_wp2_with fail
  go_ret
  exact ⟨by first | rfl | simp, hB.out⟩
 ·have e1 : decide (p = -1) = false := decide_eq_false h1
  have e2 : (p == -1) = false := by simp [h1]
  rw [e1, Bool.false_or]
  clear h1 e1
  generalize entIn g p = q at *
  cases q
  ·rw [Bool.false_and]
   go_enter Try.func84, Try.ntmps84
   go_wp2_with (first | (refine wpList_load_if (by rfl) 112 _ rfl (.pointer (some ⟨w.heap.size, 0, none⟩)) rfl (.agg cs) HL.out ?_) | (go_at_call 81; refine (HQ.out _).mono ?_; rintro e w5 ⟨rfl, hb5⟩; have c22b := (hb5.cell (p := ⟨w.heap.size, 22, none⟩) hR.out.lt).trans c22))
   go_ret
   exact ⟨by first | rfl | simp, below_more hB.out hb5⟩
  ·rw [Bool.true_and]
   by_cases h3 : p = x.ent
   ·have e3 : (p == x.ent) = true := by simp [h3]
    have e4 : decide (p = x.ent) = true := decide_eq_true h3
    rw [e4]
    have H3 := Lib.hid h3
    clear h3 e4
    go_enter Try.func84, Try.ntmps84
    go_wp2_with (first | (refine wpList_load_if (by rfl) 112 _ rfl (.pointer (some ⟨w.heap.size, 0, none⟩)) rfl (.agg cs) HL.out ?_) | (go_at_call 81; refine (HQ.out _).mono ?_; rintro e w5 ⟨rfl, hb5⟩; have c22b := (hb5.cell (p := ⟨w.heap.size, 22, none⟩) hR.out.lt).trans c22))
    go_ret
    exact ⟨by first | rfl | simp [H3.out], below_more hB.out hb5⟩
   ·have e3 : (p == x.ent) = false := by simp [h3]
    have e4 : decide (p = x.ent) = false := decide_eq_false h3
    rw [e4]
    have H3 := Lib.hid h3
    clear h3 e4
    go_enter Try.func84, Try.ntmps84
    go_wp2_with (first | (refine wpList_load_if (by rfl) 112 _ rfl (.pointer (some ⟨w.heap.size, 0, none⟩)) rfl (.agg cs) HL.out ?_) | (go_at_call 81; refine (HQ.out _).mono ?_; rintro e w5 ⟨rfl, hb5⟩; have c22b := (hb5.cell (p := ⟨w.heap.size, 22, none⟩) hR.out.lt).trans c22))
    go_ret
    exact ⟨by first | rfl | simp [H3.out], below_more hB.out hb5⟩
set_option maxRecDepth 20000 in
set_option maxHeartbeats 1600000 in
theorem gisorg_any (kind of_ : Int) (w : World) : Calls Try.prog 82 #[.int .i64 kind, .int .i64 of_] w fun e w' => e = .returned (.bool (orgB kind of_)) ∧ w = w' := by
 unfold orgB
 by_cases h1 : kind = 1
 ·subst h1
  rw [if_pos (.inl rfl)]
  have e9 : (of_ == 0) = decide (of_ = 0) := rfl
  go_enter Try.func82, Try.ntmps82
  go_wp2_with fail
  go_ret
  exact ⟨by first | rfl | simp [e9], rfl⟩
 ·have e1 : (kind == 1) = false := by simp [h1]
  by_cases h2 : kind = 2
  ·subst h2
   rw [if_pos (.inr rfl)]
   have e9 : (of_ == 0) = decide (of_ = 0) := rfl
   go_enter Try.func82, Try.ntmps82
   go_wp2_with fail
   go_ret
   exact ⟨by first | rfl | simp [e9], rfl⟩
  ·have e2 : (kind == 2) = false := by simp [h2]
   rw [if_neg (by omega)]
   by_cases h3 : kind = 3
   ·subst h3
    rw [if_pos rfl]
    go_enter Try.func82, Try.ntmps82
    go_wp2_with fail
    go_ret
    exact ⟨by first | rfl | simp, rfl⟩
   ·have e3 : (kind == 3) = false := by simp [h3]
    rw [if_neg h3]
    go_enter Try.func82, Try.ntmps82
    go_wp2_with fail
    go_ret
    exact ⟨by first | rfl | simp, rfl⟩
set_option maxRecDepth 100000 in
set_option maxHeartbeats 3200000 in
theorem ghead_any (g : Grp) (x : Ety) (L : List Acc) (G : List Ent) (V : Value) (hV : V = cdV g x) (w : World) (hk : GrK w g L G) (hs : Sm g G) (hw : GrW g L G) : Calls Try.prog 69 #[V] w fun e w' => e = .returned (.int .i64 (if (grpP g L G && (decide (1 ≤ x.id) && (entIn g x.ent && orgB x.kind x.of_))) = true then 0 else 1)) ∧ Below w.heap.size w w' := by
 have HQ := Lib.hid (fun W => gisent_any g x V hV x.ent W)
 have HOG := Lib.hid (fun W => gisorg_any x.kind x.of_ W)
 obtain ⟨GV, hGV⟩ : ∃ GV, GV = grpV g := ⟨_, rfl⟩
 have HGV := Lib.hid (fun W (h : GrK W g L G) => gvalid_any g L G W h hs hw)
 rw [← hGV] at HGV
 obtain ⟨cs, h1, -, hR, hB⟩ := cd_open g x w
 rw [h1] at hV
 have HV := Lib.hid h1
 have HLE := Lib.hid (cd_ety hR.out)
 have hR2 := Lib.hid (hR.out.up (below_alloc_new (.cells #[.int .i64 x.id, .int .i64 x.ent, .int .i64 x.day, .int .i64 x.kind, .int .i64 x.of_, .string x.txt, .slice x.A x.n x.c] 24)))
 have hB2 := Lib.hid (below_new hB.out (.cells #[.int .i64 x.id, .int .i64 x.ent, .int .i64 x.day, .int .i64 x.kind, .int .i64 x.of_, .string x.txt, .slice x.A x.n x.c] 24))
 have hS2 : Hid (Rg ((w.alloc (.cells cs 112)).alloc (.cells #[.int .i64 x.id, .int .i64 x.ent, .int .i64 x.day, .int .i64 x.kind, .int .i64 x.of_, .string x.txt, .slice x.A x.n x.c] 24)) (w.heap.size + 1) (etyC x)) := Lib.hid (by
  have h9 := rg_new (w.alloc (.cells cs 112)) 24 (etyC x)
  rw [World.size_alloc] at h9
  exact h9)
 have HLG := Lib.hid (cd_grp hR2.out hGV)
 have HK2 := Lib.hid (hk.up hB2.out)
 subst hV
 clear h1 hGV hk hs hw
 generalize grpP g L G = gp at *
 generalize entIn g x.ent = en at *
 generalize orgB x.kind x.of_ = og at *
 cases gp
 ·rw [Bool.false_and]
  go_enter Try.func69, Try.ntmps69
  go_wp2_with (first
   | (refine wpList_load_is rfl 24 _ rfl (.pointer (some ⟨w.heap.size, 21, none⟩)) rfl (etyV x) HLE.out ?_)
   | (refine wpList_load_is rfl 52 _ rfl (.pointer (some ⟨w.heap.size, 0, none⟩)) rfl GV HLG.out ?_)
   | (refine wpList_load_if (by rfl) 112 _ rfl (.pointer (some ⟨w.heap.size, 0, none⟩)) rfl (.agg cs) HL5.out ?_)
   | (go_at_call 28; refine (HGV.out _ HK2.out).mono ?_; rintro e w5 ⟨rfl, hb5⟩; have hR5 := hR2.out.up hb5; have hS5 := hS2.out.up hb5; have HB5 := Lib.hid (hB2.out.trans (hb5.mono hB2.out.size)); have HL5 := Lib.hid (cd_load hR5 HV.out.symm); have d0 := hS5.cell 0 _ rfl; have d1 := hS5.cell 1 _ rfl; have d3 := hS5.cell 3 _ rfl; have d4 := hS5.cell 4 _ rfl; have HS5 := Lib.hid hS5; clear hb5 hR5 hS5)
   | (go_at_call 81; refine (HQ.out _).mono ?_; rintro e w6 ⟨rfl, hb6⟩; have hS6 := HS5.out.up hb6; have d3b := hS6.cell 3 _ rfl; have d4b := hS6.cell 4 _ rfl; have HB6 := Lib.hid (below_more HB5.out hb6); clear hb6 hS6)
   | (go_at_call 82; refine (HOG.out _).mono ?_; rintro e w7 ⟨rfl, rfl⟩))
  go_ret
  exact ⟨by first | rfl | simp, HB5.out⟩
 rw [Bool.true_and]
 rcases Int.lt_or_le x.id 1 with h2 | h2
 ·have e2 : decide (1 ≤ x.id) = false := decide_eq_false (by omega)
  have e3 : decide (x.id < 1) = true := decide_eq_true h2
  rw [e2, Bool.false_and]
  go_enter Try.func69, Try.ntmps69
  go_wp2_with (first
   | (refine wpList_load_is rfl 24 _ rfl (.pointer (some ⟨w.heap.size, 21, none⟩)) rfl (etyV x) HLE.out ?_)
   | (refine wpList_load_is rfl 52 _ rfl (.pointer (some ⟨w.heap.size, 0, none⟩)) rfl GV HLG.out ?_)
   | (refine wpList_load_if (by rfl) 112 _ rfl (.pointer (some ⟨w.heap.size, 0, none⟩)) rfl (.agg cs) HL5.out ?_)
   | (go_at_call 28; refine (HGV.out _ HK2.out).mono ?_; rintro e w5 ⟨rfl, hb5⟩; have hR5 := hR2.out.up hb5; have hS5 := hS2.out.up hb5; have HB5 := Lib.hid (hB2.out.trans (hb5.mono hB2.out.size)); have HL5 := Lib.hid (cd_load hR5 HV.out.symm); have d0 := hS5.cell 0 _ rfl; have d1 := hS5.cell 1 _ rfl; have d3 := hS5.cell 3 _ rfl; have d4 := hS5.cell 4 _ rfl; have HS5 := Lib.hid hS5; clear hb5 hR5 hS5)
   | (go_at_call 81; refine (HQ.out _).mono ?_; rintro e w6 ⟨rfl, hb6⟩; have hS6 := HS5.out.up hb6; have d3b := hS6.cell 3 _ rfl; have d4b := hS6.cell 4 _ rfl; have HB6 := Lib.hid (below_more HB5.out hb6); clear hb6 hS6)
   | (go_at_call 82; refine (HOG.out _).mono ?_; rintro e w7 ⟨rfl, rfl⟩))
  go_ret
  exact ⟨by first | rfl | simp, HB5.out⟩
 have e2 : decide (1 ≤ x.id) = true := decide_eq_true h2
 have e3 : decide (x.id < 1) = false := decide_eq_false (by omega)
 rw [e2, Bool.true_and]
 cases en
 ·rw [Bool.false_and]
  go_enter Try.func69, Try.ntmps69
  go_wp2_with (first
   | (refine wpList_load_is rfl 24 _ rfl (.pointer (some ⟨w.heap.size, 21, none⟩)) rfl (etyV x) HLE.out ?_)
   | (refine wpList_load_is rfl 52 _ rfl (.pointer (some ⟨w.heap.size, 0, none⟩)) rfl GV HLG.out ?_)
   | (refine wpList_load_if (by rfl) 112 _ rfl (.pointer (some ⟨w.heap.size, 0, none⟩)) rfl (.agg cs) HL5.out ?_)
   | (go_at_call 28; refine (HGV.out _ HK2.out).mono ?_; rintro e w5 ⟨rfl, hb5⟩; have hR5 := hR2.out.up hb5; have hS5 := hS2.out.up hb5; have HB5 := Lib.hid (hB2.out.trans (hb5.mono hB2.out.size)); have HL5 := Lib.hid (cd_load hR5 HV.out.symm); have d0 := hS5.cell 0 _ rfl; have d1 := hS5.cell 1 _ rfl; have d3 := hS5.cell 3 _ rfl; have d4 := hS5.cell 4 _ rfl; have HS5 := Lib.hid hS5; clear hb5 hR5 hS5)
   | (go_at_call 81; refine (HQ.out _).mono ?_; rintro e w6 ⟨rfl, hb6⟩; have hS6 := HS5.out.up hb6; have d3b := hS6.cell 3 _ rfl; have d4b := hS6.cell 4 _ rfl; have HB6 := Lib.hid (below_more HB5.out hb6); clear hb6 hS6)
   | (go_at_call 82; refine (HOG.out _).mono ?_; rintro e w7 ⟨rfl, rfl⟩))
  go_ret
  exact ⟨by first | rfl | simp, HB6.out⟩
 rw [Bool.true_and]
 cases og
 ·go_enter Try.func69, Try.ntmps69
  go_wp2_with (first
   | (refine wpList_load_is rfl 24 _ rfl (.pointer (some ⟨w.heap.size, 21, none⟩)) rfl (etyV x) HLE.out ?_)
   | (refine wpList_load_is rfl 52 _ rfl (.pointer (some ⟨w.heap.size, 0, none⟩)) rfl GV HLG.out ?_)
   | (refine wpList_load_if (by rfl) 112 _ rfl (.pointer (some ⟨w.heap.size, 0, none⟩)) rfl (.agg cs) HL5.out ?_)
   | (go_at_call 28; refine (HGV.out _ HK2.out).mono ?_; rintro e w5 ⟨rfl, hb5⟩; have hR5 := hR2.out.up hb5; have hS5 := hS2.out.up hb5; have HB5 := Lib.hid (hB2.out.trans (hb5.mono hB2.out.size)); have HL5 := Lib.hid (cd_load hR5 HV.out.symm); have d0 := hS5.cell 0 _ rfl; have d1 := hS5.cell 1 _ rfl; have d3 := hS5.cell 3 _ rfl; have d4 := hS5.cell 4 _ rfl; have HS5 := Lib.hid hS5; clear hb5 hR5 hS5)
   | (go_at_call 81; refine (HQ.out _).mono ?_; rintro e w6 ⟨rfl, hb6⟩; have hS6 := HS5.out.up hb6; have d3b := hS6.cell 3 _ rfl; have d4b := hS6.cell 4 _ rfl; have HB6 := Lib.hid (below_more HB5.out hb6); clear hb6 hS6)
   | (go_at_call 82; refine (HOG.out _).mono ?_; rintro e w7 ⟨rfl, rfl⟩))
  go_ret
  exact ⟨by first | rfl | simp, HB6.out⟩
 ·go_enter Try.func69, Try.ntmps69
  go_wp2_with (first
   | (refine wpList_load_is rfl 24 _ rfl (.pointer (some ⟨w.heap.size, 21, none⟩)) rfl (etyV x) HLE.out ?_)
   | (refine wpList_load_is rfl 52 _ rfl (.pointer (some ⟨w.heap.size, 0, none⟩)) rfl GV HLG.out ?_)
   | (refine wpList_load_if (by rfl) 112 _ rfl (.pointer (some ⟨w.heap.size, 0, none⟩)) rfl (.agg cs) HL5.out ?_)
   | (go_at_call 28; refine (HGV.out _ HK2.out).mono ?_; rintro e w5 ⟨rfl, hb5⟩; have hR5 := hR2.out.up hb5; have hS5 := hS2.out.up hb5; have HB5 := Lib.hid (hB2.out.trans (hb5.mono hB2.out.size)); have HL5 := Lib.hid (cd_load hR5 HV.out.symm); have d0 := hS5.cell 0 _ rfl; have d1 := hS5.cell 1 _ rfl; have d3 := hS5.cell 3 _ rfl; have d4 := hS5.cell 4 _ rfl; have HS5 := Lib.hid hS5; clear hb5 hR5 hS5)
   | (go_at_call 81; refine (HQ.out _).mono ?_; rintro e w6 ⟨rfl, hb6⟩; have hS6 := HS5.out.up hb6; have d3b := hS6.cell 3 _ rfl; have d4b := hS6.cell 4 _ rfl; have HB6 := Lib.hid (below_more HB5.out hb6); clear hb6 hS6)
   | (go_at_call 82; refine (HOG.out _).mono ?_; rintro e w7 ⟨rfl, rfl⟩))
  go_ret
  exact ⟨by first | rfl | simp, HB6.out⟩
theorem emvalid_any (n : Int) (w : World) : Calls Try.prog 83 #[.int .i64 n] w fun e w' => e = .returned (.bool (amtB n)) ∧ w = w' := by
 unfold amtB
 by_cases h1 : (-1000000000000 : Int) ≤ n
 ·by_cases h2 : n ≤ 1000000000000
  ·rw [decide_eq_true h1, decide_eq_true h2]
   go_enter Try.func83, Try.ntmps83
   go_wp2
   go_ret
   exact ⟨rfl, rfl⟩
  ·rw [decide_eq_true h1, decide_eq_false h2]
   have h3 : decide (n ≤ 1000000000000) = false := decide_eq_false h2
   clear h2
   go_enter Try.func83, Try.ntmps83
   go_wp2
   go_ret
   exact ⟨rfl, rfl⟩
 ·rw [decide_eq_false h1]
  have h3 : decide ((-1000000000000 : Int) ≤ n) = false := decide_eq_false h1
  clear h1
  go_enter Try.func83, Try.ntmps83
  go_wp2
  go_ret
  exact ⟨rfl, rfl⟩
def erB (b : Bool) : Int := if b = true then 0 else 1
def prtB (b : UInt8) : Bool := decide (32 ≤ b.toNat) && decide (b.toNat ≤ 126)
def txtB (s : ByteArray) : Bool := decide (s.size ≤ 80) && allC prtB s
theorem txtB_no {s : ByteArray} {k : Nat} (h : k < s.size) (hd : prtB (s[k]'h) = false) : txtB s = false := by
 unfold txtB
 rw [allC_no h hd, Bool.and_false]
set_option maxRecDepth 100000 in
set_option maxHeartbeats 1600000 in
theorem gtext_any (g : Grp) (x : Ety) (V : Value) (hV : V = cdV g x) (w : World) : Calls Try.prog 70 #[V] w fun e w' => e = .returned (.int .i64 (erB (txtB x.txt))) ∧ Below w.heap.size w w' := by
 obtain ⟨cs, h1, -, hR, hB⟩ := cd_open g x w
 rw [h1] at hV
 have c26 := hR.out.cell 26 _ rfl
 have hB1 := hB.out
 subst hV
 clear h1 hR hB
 generalize x.txt = s at *
 rcases Nat.lt_or_ge 80 s.size with h80 | h80
 ·have e0 : decide ((80 : Int) < (s.size : Int)) = true := decide_eq_true (by omega)
  have E : Hid (txtB s = false) := Lib.hid (by unfold txtB; rw [decide_eq_false (by omega)]; rfl)
  go_enter Try.func70, Try.ntmps70
  go_wp2_with fail
  go_ret
  exact ⟨by rw [E.out]; rfl, hB1⟩
 ·have e0 : decide ((80 : Int) < (s.size : Int)) = false := decide_eq_false (by omega)
  go_enter Try.func70, Try.ntmps70
  go_wp2_with fail
  go_loopg [13] s.size (fun kx sI wr => ∃ i : Nat, sI = .int .i64 i ∧ i ≤ s.size ∧ s.size - i ≤ kx ∧ Hid (∀ j, j < i → (h2 : j < s.size) → prtB (s[j]'h2) = true) ∧ Below w.heap.size w wr)
  case atStart => exact ⟨0, rfl, by omega, by omega, Lib.hid (fun j h => absurd h (by omega)), hB1⟩
  case round =>
   obtain ⟨i, rfl, hi, hix, hd, hBi⟩ := hrel
   by_cases hlt : i < s.size
   ·have hlt' : (i : Int) < (s.size : Int) := by omega
    have hno := fun h => txtB_no (s := s) hlt h
    obtain ⟨b, hb⟩ : ∃ b, s[i]'hlt = b := ⟨_, rfl⟩
    have hcb : ∀ h, s[i]'h = b := fun h => hb
    have hnx : prtB b = true → Hid (∀ j, j < i + 1 → (h2 : j < s.size) → prtB (s[j]'h2) = true) := fun hq => Lib.hid (fun j hj h2 => by
     rcases Nat.lt_or_ge j i with h4 | h4
     ·exact hd.out j h4 h2
     ·obtain rfl : j = i := by omega
      rw [hb]; exact hq)
    rw [hb] at hno
    have hpb : prtB b = (decide (32 ≤ b.toNat) && decide (b.toNat ≤ 126)) := rfl
    clear hb
    rcases Nat.lt_or_ge b.toNat 32 with g1 | g1
    ·have E : Hid (txtB s = false) := Lib.hid (hno (by rw [hpb, decide_eq_false (by omega)]; rfl))
     have e1 : decide ((b.toNat : Int) < 32) = true := decide_eq_true (by omega)
     clear hno hnx hpb g1
     go_wp2_with fail
     go_ret
     exact ⟨by rw [E.out]; rfl, hBi⟩
    ·have e1 : decide ((b.toNat : Int) < 32) = false := decide_eq_false (by omega)
     rcases Nat.lt_or_ge 126 b.toNat with g2 | g2
     ·have E : Hid (txtB s = false) := Lib.hid (hno (by rw [hpb, decide_eq_false (show ¬ b.toNat ≤ 126 by omega), Bool.and_false]))
      have e2 : decide ((126 : Int) < (b.toNat : Int)) = true := decide_eq_true (by omega)
      clear hno hnx hpb g1 g2
      go_wp2_with fail
      go_ret
      exact ⟨by rw [E.out]; rfl, hBi⟩
     ·have e2 : decide ((126 : Int) < (b.toNat : Int)) = false := decide_eq_false (by omega)
      have hd2 := hnx (by rw [hpb, decide_eq_true g1, decide_eq_true g2]; rfl)
      clear hno hnx hpb g1 g2 hd
      go_wp2_with fail
      go_roundg (s.size - (i + 1))
      case measure => omega
      case rel => exact ⟨i + 1, by go_num, by omega, by omega, hd2, hBi⟩
   ·obtain rfl : i = s.size := by omega
    have hlt' : ¬ (s.size : Int) < (s.size : Int) := by omega
    have hall : allC prtB s = true := allC_yes (fun j h2 => hd.out j h2 h2)
    have E : Hid (txtB s = true) := Lib.hid (by unfold txtB; rw [hall, decide_eq_true h80]; rfl)
    clear hall
    go_wp2_with fail
    go_ret
    exact ⟨by rw [E.out]; rfl, hBi⟩
structure EtyK (w : World) (x : Ety) (X : List Lnk) : Prop where
 ln : X.length = x.n
 hz : LnkAt w x.A X
 ok : ∀ l ∈ X, okK (kOf l) ∧ (Lit.int .i64 l.tgt).wf = true
theorem EtyK.up {w w' : World} {x : Ety} {X : List Lnk} (h : EtyK w x X) (hb : Below w.heap.size w w') : EtyK w' x X := ⟨h.ln, h.hz.up hb, h.ok⟩
set_option maxRecDepth 100000 in
set_option maxHeartbeats 1600000 in
theorem gbal_any (g : Grp) (x : Ety) (X : List Lnk) (V : Value) (hV : V = cdV g x) (w : World) (hx : EtyK w x X) (hn : x.n ≤ 1000) : Calls Try.prog 74 #[V] w fun e w' => e = .returned (.int .i64 (if wr (sumT X) = 0 then 0 else 11)) ∧ Below w.heap.size w w' := by
 obtain ⟨cs, h1, -, hR, hB⟩ := cd_open g x w
 rw [h1] at hV
 have c27 := hR.out.cell 27 _ rfl
 have HS := Lib.hid (esum_any x.A x.c X _ (hx.hz.up hB.out) (by rw [hx.ln]; exact hn))
 rw [hx.ln] at HS
 subst hV
 clear h1 hR
 generalize wr (sumT X) = s at *
 by_cases h2 : s = 0
 ·subst h2
  rw [if_pos rfl]
  go_enter Try.func74, Try.ntmps74
  go_wp2_with (go_at_call 86; refine HS.out.mono ?_; rintro e w5 ⟨rfl, hb5⟩)
  go_ret
  exact ⟨by first | rfl | simp, below_more hB.out hb5⟩
 ·have e1 : (s != 0) = true := by simp [h2]
  rw [if_neg h2]
  go_enter Try.func74, Try.ntmps74
  go_wp2_with (go_at_call 86; refine HS.out.mono ?_; rintro e w5 ⟨rfl, hb5⟩)
  go_ret
  exact ⟨by first | rfl | simp, below_more hB.out hb5⟩
set_option maxRecDepth 100000 in
set_option maxHeartbeats 1600000 in
theorem gdate_any (g : Grp) (x : Ety) (V : Value) (hV : V = cdV g x) (w : World) : Calls Try.prog 73 #[V] w fun e w' => e = .returned (.int .i64 (prE g.cy g.cm g.cp x.day)) ∧ Below w.heap.size w w' := by
 obtain ⟨cs, h1, -, hR, hB⟩ := cd_open g x w
 rw [h1] at hV
 have c23 := hR.out.cell 23 _ rfl
 have HL := Lib.hid (cd_cal hR.out)
 have HS := Lib.hid (fun W => cperiod7_any g.cy g.cm g.cp x.day W)
 subst hV
 clear h1 hR
 generalize prE g.cy g.cm g.cp x.day = s at *
 generalize prN g.cy g.cm g.cp x.day = t at *
 go_enter Try.func73, Try.ntmps73
 go_wp2_with (first
  | (refine wpList_load_is rfl 46 _ rfl (.pointer (some ⟨w.heap.size, 1, none⟩)) rfl (.agg #[.int .i64 g.cy, .int .i64 g.cm, .int .i64 g.cp]) HL.out ?_)
  | (go_at_call 85; refine (HS.out _).mono ?_; rintro e w5 ⟨rfl, hb5⟩))
 go_ret
 exact ⟨by first | rfl | simp, below_more hB.out hb5⟩
def lnB (g : Grp) (e : Int) (l : Lnk) : Bool := !decide (l.tgt = 0) && (amtB l.tgt && ptB g e l.since)
def lsB (g : Grp) (e : Int) (X : List Lnk) : Bool := decide (2 ≤ X.length) && (decide (X.length ≤ 40) && X.all (lnB g e))
def acB (L : List Acc) (X : List Lnk) : Bool := X.all fun l => (fnd L l.frm).isSome
def er17 (b : Bool) : Int := if b = true then 0 else 17
theorem all_no {p : Lnk → Bool} {X : List Lnk} {k : Nat} (h : k < X.length) (hd : p (X.getD k lnk0) = false) : X.all p = false := by
 rw [List.all_eq_false]
 exact ⟨_, getD_mem_acc h, by rw [hd]; simp⟩
set_option maxRecDepth 100000 in
set_option maxHeartbeats 3200000 in
theorem glines_any (g : Grp) (x : Ety) (X : List Lnk) (V : Value) (hV : V = cdV g x) (w : World) (hx : EtyK w x X) (hn : x.n ≤ 1000) : Calls Try.prog 71 #[V] w fun e w' => e = .returned (.int .i64 (erB (lsB g x.ent X))) ∧ Below w.heap.size w w' := by
 have HQ := Lib.hid (fun p W => gispart_any g x V hV p W)
 obtain ⟨cs, h1, -, hR, hB⟩ := cd_open g x w
 rw [h1] at hV
 have HV := Lib.hid h1
 have c27 := hR.out.cell 27 _ rfl
 have HZ := Lib.hid (hx.hz.up hB.out)
 have HN := Lib.hid hx.ln
 generalize x.A = XA at c27 HZ
 subst hV
 clear h1 hx
 have hls : lsB g x.ent X = (decide (2 ≤ x.n) && (decide (x.n ≤ 40) && X.all (lnB g x.ent))) := by unfold lsB; rw [HN.out]
 have HLS := Lib.hid hls
 clear hls
 rcases Nat.lt_or_ge x.n 2 with h2 | h2
 ·have e1 : decide ((x.n : Int) < 2) = true := decide_eq_true (by omega)
  have E : Hid (lsB g x.ent X = false) := Lib.hid (by rw [HLS.out, decide_eq_false (by omega)]; rfl)
  generalize lsB g x.ent X = q at *
  go_enter Try.func71, Try.ntmps71
  go_wp2_with fail
  go_ret
  exact ⟨by rw [E.out]; rfl, hB.out⟩
 have e1 : decide ((x.n : Int) < 2) = false := decide_eq_false (by omega)
 rcases Nat.lt_or_ge 40 x.n with h4 | h4
 ·have e2 : decide ((40 : Int) < (x.n : Int)) = true := decide_eq_true (by omega)
  have E : Hid (lsB g x.ent X = false) := Lib.hid (by rw [HLS.out, decide_eq_true h2, decide_eq_false (by omega)]; rfl)
  generalize lsB g x.ent X = q at *
  go_enter Try.func71, Try.ntmps71
  go_wp2_with fail
  go_ret
  exact ⟨by rw [E.out]; rfl, hB.out⟩
 have e2 : decide ((40 : Int) < (x.n : Int)) = false := decide_eq_false (by omega)
 have HL2 : Hid (lsB g x.ent X = X.all (lnB g x.ent)) := Lib.hid (by rw [HLS.out, decide_eq_true h2, decide_eq_true h4]; rfl)
 clear HLS
 generalize lsB g x.ent X = q at *
 generalize hW : w.alloc (.cells cs 112) = W0 at *
 have hsW : W0.heap.size = w.heap.size + 1 := by rw [← hW]; simp
 have HSW := Lib.hid hsW
 clear hsW
 go_enter Try.func71, Try.ntmps71
 go_wp2_with fail
 go_loopg [19] x.n (fun kx s19 wr => ∃ k : Nat, s19 = .int .i64 k ∧ k ≤ x.n ∧ x.n - k ≤ kx ∧ Hid ((X.take k).all (lnB g x.ent) = true) ∧ Below W0.heap.size W0 wr)
 case atStart => exact ⟨0, rfl, by omega, by omega, Lib.hid rfl, Below.refl _ _⟩
 case round =>
  obtain ⟨k, rfl, hk, hkx, HT, hBi⟩ := hrel
  by_cases hlt : k < x.n
  ·have hltz : (k : Int) < (x.n : Int) := by omega
   obtain ⟨bb, off, rfl, hbw, hcs⟩ := HZ.out (by rw [HN.out]; omega)
   have hkl : k < X.length := by rw [HN.out]; exact hlt
   obtain ⟨c0, c1, c2⟩ := (hcs k hkl).up hBi hbw
   have hst : (X.take (k + 1)).all (lnB g x.ent) = lnB g x.ent (X.getD k lnk0) := by
    rw [take_succ_getD (d := lnk0) hkl, List.all_append, HT.out, List.all_cons, List.all_nil, Bool.true_and, Bool.and_true]
   have hno := fun h => all_no (p := lnB g x.ent) hkl h
   generalize X.getD k lnk0 = l at *
   have hln : lnB g x.ent l = (!decide (l.tgt = 0) && (amtB l.tgt && ptB g x.ent l.since)) := rfl
   have HPT := Lib.hid (fun W => HQ.out l.since W)
   have HMV := Lib.hid (fun W => emvalid_any l.tgt W)
   obtain ⟨W1, hW1⟩ : ∃ W1, wr.alloc (.cells #[.int .i64 l.frm, .int .i64 l.tgt, .int .i64 l.since] 32) = W1 := ⟨_, rfl⟩
   have hB1 : Below W0.heap.size W0 W1 := by rw [← hW1]; exact below_new hBi _
   obtain ⟨⟨d0, d1, d2⟩, dlt⟩ : LB W1 wr.heap.size l := by rw [← hW1]; exact lb_new wr _ l
   simp only [Nat.zero_add] at d0 d1 d2
   have HB1 := Lib.hid hB1
   have HL1 := Lib.hid (cd_load (hR.out.up hB1) HV.out.symm)
   have HST := Lib.hid hst
   have HNO := Lib.hid hno
   clear hst hno hcs hBi hB1
   generalize ptB g x.ent l.since = pt at *
   generalize amtB l.tgt = am at *
   by_cases h0 : l.tgt = 0
   ·have e3 : (l.tgt == 0) = true := by simp [h0]
    have E : Hid (q = false) := Lib.hid (by rw [HL2.out]; exact HNO.out (by rw [hln, decide_eq_true h0]; rfl))
    clear h0 hln
    go_wp2_with fail
    go_ret
    exact ⟨by rw [E.out]; rfl, hB.out.trans (HB1.out.mono (by have := HSW.out; omega))⟩
   have e3 : (l.tgt == 0) = false := by simp [h0]
   rw [decide_eq_false h0, Bool.not_false, Bool.true_and] at hln
   clear h0
   cases am
   ·have E : Hid (q = false) := Lib.hid (by rw [HL2.out]; exact HNO.out (by rw [hln]; rfl))
    clear hln
    go_wp2_with (first | (refine wpList_load_if (by rfl) 112 _ rfl (.pointer (some ⟨w.heap.size, 0, none⟩)) rfl (.agg cs) HL1.out ?_) | (go_at_call 83; refine (HMV.out _).mono ?_; rintro e w4 ⟨rfl, rfl⟩) | (go_at_call 84; refine (HPT.out _).mono ?_; rintro e w5 ⟨rfl, hb5⟩; have HB5 := Lib.hid (HB1.out.trans (hb5.mono HB1.out.size)); clear hb5))
    go_ret
    exact ⟨by rw [E.out]; rfl, hB.out.trans (HB1.out.mono (by have := HSW.out; omega))⟩
   rw [Bool.true_and] at hln
   cases pt
   ·have E : Hid (q = false) := Lib.hid (by rw [HL2.out]; exact HNO.out hln)
    clear hln
    go_wp2_with (first | (refine wpList_load_if (by rfl) 112 _ rfl (.pointer (some ⟨w.heap.size, 0, none⟩)) rfl (.agg cs) HL1.out ?_) | (go_at_call 83; refine (HMV.out _).mono ?_; rintro e w4 ⟨rfl, rfl⟩) | (go_at_call 84; refine (HPT.out _).mono ?_; rintro e w5 ⟨rfl, hb5⟩; have HB5 := Lib.hid (HB1.out.trans (hb5.mono HB1.out.size)); clear hb5))
    go_ret
    exact ⟨by rw [E.out]; rfl, hB.out.trans (HB5.out.mono (by have := HSW.out; omega))⟩
   ·have HT2 : Hid ((X.take (k + 1)).all (lnB g x.ent) = true) := Lib.hid (by rw [HST.out]; exact hln)
    clear hln
    go_wp2_with (first | (refine wpList_load_if (by rfl) 112 _ rfl (.pointer (some ⟨w.heap.size, 0, none⟩)) rfl (.agg cs) HL1.out ?_) | (go_at_call 83; refine (HMV.out _).mono ?_; rintro e w4 ⟨rfl, rfl⟩) | (go_at_call 84; refine (HPT.out _).mono ?_; rintro e w5 ⟨rfl, hb5⟩; have HB5 := Lib.hid (HB1.out.trans (hb5.mono HB1.out.size)); clear hb5))
    go_roundg (x.n - (k + 1))
    case measure => omega
    case rel => exact ⟨k + 1, by go_num, by omega, by omega, HT2, HB5.out⟩
  ·obtain rfl : k = x.n := by omega
   have hltz : ¬ (x.n : Int) < (x.n : Int) := by omega
   have E : Hid (q = true) := Lib.hid (by rw [HL2.out]; have h9 := HT.out; rwa [show X.take x.n = X by rw [← HN.out, List.take_length]] at h9)
   go_wp2_with fail
   go_ret
   exact ⟨by rw [E.out]; rfl, hB.out.trans (hBi.mono (by have := HSW.out; omega))⟩
set_option maxRecDepth 100000 in
set_option maxHeartbeats 3200000 in
theorem gaccs_any (g : Grp) (x : Ety) (X : List Lnk) (L : List Acc) (G : List Ent) (V : Value) (hV : V = cdV g x) (w : World) (hk : GrK w g L G) (hs : Sm g G) (hx : EtyK w x X) (hn : x.n ≤ 1000) (he : entIn g x.ent = true) : Calls Try.prog 72 #[V] w fun e w' => e = .returned (.int .i64 (er17 (acB (G.getD x.ent.toNat ent0).L X))) ∧ Below w.heap.size w w' := by
 obtain ⟨j, hj⟩ : ∃ j : Nat, x.ent = (j : Int) := ⟨x.ent.toNat, by unfold entIn at he; simp at he; omega⟩
 have hjm : j < g.m := by unfold entIn at he; simp at he; omega
 rw [hj, Int.toNat_natCast]
 obtain ⟨cs, h1, -, hR, hB⟩ := cd_open g x w
 rw [h1] at hV
 have c27 := hR.out.cell 27 _ rfl
 have c22 := hR.out.cell 22 _ rfl
 have c20 := hR.out.cell 20 _ rfl
 rw [hj] at c22
 have hjG : j < G.length := by rw [hk.lg]; exact hjm
 obtain ⟨eb, eoff, hE, hew, he5⟩ := ent_at (hk.he.up hB.out) hjG
 have hmem : G.getD j ent0 ∈ G := getD_mem_acc hjG
 have hek := (hk.hk _ hmem).up hB.out
 have hen := (hs.e _ hmem).1
 generalize G.getD j ent0 = ey at *
 have f2 := he5.c2
 have HZ := Lib.hid (hx.hz.up hB.out)
 have HN := Lib.hid hx.ln
 generalize x.A = XA at c27 HZ
 have HF := Lib.hid (fun c W (h : AccAt W ey.A ey.L) => cfind_any ey.A ey.c ey.L c W h (by rw [hek.ln]; omega))
 rw [hek.ln] at HF
 have HEZ := Lib.hid hek.hz
 subst hV
 have hjz : (j : Int) < (g.m : Int) := by omega
 have hj0 : (0 : Int) ≤ (j : Int) := by omega
 clear h1 hx hR he5 hek hen hmem he hk hs
 rw [hE] at c20
 generalize hW : w.alloc (.cells cs 112) = W0 at *
 have hsW : W0.heap.size = w.heap.size + 1 := by rw [← hW]; simp
 have HSW := Lib.hid hsW
 clear hsW
 go_enter Try.func72, Try.ntmps72
 go_wp2_with fail
 go_loopg [21] x.n (fun kx s21 wr => ∃ k : Nat, s21 = .int .i64 k ∧ k ≤ x.n ∧ x.n - k ≤ kx ∧ Hid ((X.take k).all (fun l => (fnd ey.L l.frm).isSome) = true) ∧ Below W0.heap.size W0 wr)
 case atStart => exact ⟨0, rfl, by omega, by omega, Lib.hid rfl, Below.refl _ _⟩
 case round =>
  obtain ⟨k, rfl, hk, hkx, HT, hBi⟩ := hrel
  by_cases hlt : k < x.n
  ·have hltz : (k : Int) < (x.n : Int) := by omega
   obtain ⟨bb, off, rfl, hbw, hcs⟩ := HZ.out (by rw [HN.out]; omega)
   have hkl : k < X.length := by rw [HN.out]; exact hlt
   obtain ⟨c0, c1, c2⟩ := (hcs k hkl).up hBi hbw
   have hst : (X.take (k + 1)).all (fun l => (fnd ey.L l.frm).isSome) = (fnd ey.L (X.getD k lnk0).frm).isSome := by
    rw [take_succ_getD (d := lnk0) hkl, List.all_append, HT.out, List.all_cons, List.all_nil, Bool.true_and, Bool.and_true]
   have hno := fun h => all_no (p := fun l => (fnd ey.L l.frm).isSome) hkl h
   generalize X.getD k lnk0 = l at *
   have HFD := Lib.hid (fun W h => HF.out l.frm W h)
   obtain ⟨W1, hW1⟩ : ∃ W1, wr.alloc (.cells #[.int .i64 l.frm, .int .i64 l.tgt, .int .i64 l.since] 32) = W1 := ⟨_, rfl⟩
   have hB1 : Below W0.heap.size W0 W1 := by rw [← hW1]; exact below_new hBi _
   obtain ⟨⟨d0, d1, d2⟩, dlt⟩ : LB W1 wr.heap.size l := by rw [← hW1]; exact lb_new wr _ l
   simp only [Nat.zero_add] at d0 d1 d2
   have HB1 := Lib.hid hB1
   have HEZ1 := Lib.hid (HEZ.out.up hB1)
   have HST := Lib.hid hst
   have HNO := Lib.hid hno
   clear hst hno hcs hBi hB1
   generalize fndA ey.L l.frm = ac at *
   generalize (fnd ey.L l.frm).isSome = fb at *
   cases fb
   ·have E : Hid (acB ey.L X = false) := Lib.hid (HNO.out rfl)
    go_wp2_with (go_at_call 65; refine (HFD.out _ HEZ1.out).mono ?_; rintro e w5 ⟨rfl, hb5⟩; have HB5 := Lib.hid (below_new (HB1.out.trans (hb5.mono HB1.out.size)) (.cells #[.int .i64 ac.code, .int .i64 ac.kind, .int .i64 ac.basis, .int .i64 ac.par] 82)); clear hb5)
    go_ret
    exact ⟨by rw [E.out]; rfl, hB.out.trans (HB5.out.mono (by have := HSW.out; omega))⟩
   ·have HT2 : Hid ((X.take (k + 1)).all (fun l => (fnd ey.L l.frm).isSome) = true) := Lib.hid HST.out
    go_wp2_with (go_at_call 65; refine (HFD.out _ HEZ1.out).mono ?_; rintro e w5 ⟨rfl, hb5⟩; have HB5 := Lib.hid (below_new (HB1.out.trans (hb5.mono HB1.out.size)) (.cells #[.int .i64 ac.code, .int .i64 ac.kind, .int .i64 ac.basis, .int .i64 ac.par] 82)); clear hb5)
    go_roundg (x.n - (k + 1))
    case measure => omega
    case rel => exact ⟨k + 1, by go_num, by omega, by omega, HT2, HB5.out⟩
  ·obtain rfl : k = x.n := by omega
   have hltz : ¬ (x.n : Int) < (x.n : Int) := by omega
   have E : Hid (acB ey.L X = true) := Lib.hid (by have h9 := HT.out; rwa [show X.take x.n = X by rw [← HN.out, List.take_length]] at h9)
   go_wp2_with fail
   go_ret
   exact ⟨by rw [E.out]; rfl, hB.out.trans (hBi.mono (by have := HSW.out; omega))⟩
set_option maxRecDepth 100000 in
set_option maxHeartbeats 1600000 in
theorem cd_build (g : Grp) (x : Ety) (w : World) : (Instr.build 112 #[(0, grpV g), (1, etyV x)]).run Try.prog w = .ok (cdV g x) w := by
 exact run_build w 112 _ _ (by kernel_rfl)
def fst6 (r0 r1 r2 r3 r4 r5 : Int) : Int := if r0 = 0 then (if r1 = 0 then (if r2 = 0 then (if r3 = 0 then (if r4 = 0 then (r5) else r4) else r3) else r2) else r1) else r0
def hdN (g : Grp) (x : Ety) (L : List Acc) (G : List Ent) : Int := if (grpP g L G && (decide (1 ≤ x.id) && (entIn g x.ent && orgB x.kind x.of_))) = true then 0 else 1
def blN (X : List Lnk) : Int := if wr (sumT X) = 0 then 0 else 11
def chkN (g : Grp) (x : Ety) (X : List Lnk) (L : List Acc) (G : List Ent) : Int := fst6 (hdN g x L G) (erB (txtB x.txt)) (erB (lsB g x.ent X)) (er17 (acB (G.getD x.ent.toNat ent0).L X)) (prE g.cy g.cm g.cp x.day) (blN X)
theorem hdN_ent {g : Grp} {x : Ety} {L : List Acc} {G : List Ent} (h : hdN g x L G = 0) : entIn g x.ent = true := by
 unfold hdN at h
 split at h
 ·rename_i h1
  simp only [Bool.and_eq_true] at h1
  exact h1.2.2.1
 ·cases h
theorem echecks_any (w : World) : Calls Try.prog 55 #[] w fun e w' => e = .returned (.slice (some ⟨w.heap.size, 0, none⟩) 6 6) ∧ w' = w.alloc (.cells #[.func (.func 69) #[] #[], .func (.func 70) #[] #[], .func (.func 71) #[] #[], .func (.func 72) #[] #[], .func (.func 73) #[] #[], .func (.func 74) #[] #[]] 110) := by
 go_enter Try.func55, Try.ntmps55
 go_wp2_with fail
 go_ret
 exact ⟨rfl, rfl⟩
set_option maxRecDepth 100000 in
set_option maxHeartbeats 6400000 in
theorem gcheck_any (g : Grp) (x : Ety) (X : List Lnk) (L : List Acc) (G : List Ent) (w : World) (hk : GrK w g L G) (hs : Sm g G) (hw : GrW g L G) (hx : EtyK w x X) (hn : x.n ≤ 1000) : Calls Try.prog 43 #[grpV g, etyV x] w fun e w' => e = .returned (.int .i64 (chkN g x X L G)) ∧ Below w.heap.size w w' := by
 obtain ⟨V, hV⟩ : ∃ V, V = cdV g x := ⟨_, rfl⟩
 have H0 := Lib.hid (fun W (h : Below w.heap.size w W) => ghead_any g x L G V hV W (hk.up h) hs hw)
 have H1 := Lib.hid (fun W (_ : Below w.heap.size w W) => gtext_any g x V hV W)
 have H2 := Lib.hid (fun W (h : Below w.heap.size w W) => glines_any g x X V hV W (hx.up h) hn)
 have H3 := Lib.hid (fun he W (h : Below w.heap.size w W) => gaccs_any g x X L G V hV W (hk.up h) hs (hx.up h) hn he)
 have H4 := Lib.hid (fun W (_ : Below w.heap.size w W) => gdate_any g x V hV W)
 have H5 := Lib.hid (fun W (h : Below w.heap.size w W) => gbal_any g x X V hV W (hx.up h) hn)
 have HE := Lib.hid (hdN_ent (g := g) (x := x) (L := L) (G := G))
 have e0 : (if (grpP g L G && (decide (1 ≤ x.id) && (entIn g x.ent && orgB x.kind x.of_))) = true then 0 else 1 : Int) = hdN g x L G := rfl
 have e5 : (if wr (sumT X) = 0 then 0 else 11 : Int) = blN X := rfl
 rw [e0] at H0
 rw [e5] at H5
 have hc : chkN g x X L G = fst6 (hdN g x L G) (erB (txtB x.txt)) (erB (lsB g x.ent X)) (er17 (acB (G.getD x.ent.toNat ent0).L X)) (prE g.cy g.cm g.cp x.day) (blN X) := rfl
 rw [hc]
 clear e0 e5 hc
 generalize hdN g x L G = r0 at *
 generalize erB (txtB x.txt) = r1 at *
 generalize erB (lsB g x.ent X) = r2 at *
 generalize er17 (acB (G.getD x.ent.toNat ent0).L X) = r3 at *
 generalize prE g.cy g.cm g.cp x.day = r4 at *
 generalize blN X = r5 at *
 generalize entIn g x.ent = en at *
 obtain ⟨GV, hGV⟩ : ∃ GV, GV = grpV g := ⟨_, rfl⟩
 obtain ⟨XV, hXV⟩ : ∃ XV, XV = etyV x := ⟨_, rfl⟩
 have HBD := Lib.hid (fun W => cd_build g x W)
 rw [← hGV, ← hXV, ← hV] at HBD
 have HGV := Lib.hid hGV
 have HXV := Lib.hid hXV
 have HV := Lib.hid hV
 rw [grpV_is]
 obtain ⟨gs, hgs⟩ : ∃ gs, (grpC g).toArray = gs := ⟨_, rfl⟩
 obtain ⟨xs, hxs⟩ : ∃ xs, (etyC x).toArray = xs := ⟨_, rfl⟩
 have hxV : etyV x = .agg xs := by rw [etyV_is, hxs]
 rw [hgs, hxV]
 obtain ⟨w2, hw2⟩ : ∃ w2, (w.alloc (.cells gs 52)).alloc (.cells xs 24) = w2 := ⟨_, rfl⟩
 have HG2 : Hid (Rg w2 w.heap.size (grpC g)) := Lib.hid (by rw [← hw2, ← hgs]; exact (rg_new w _ _).up (below_alloc_new _))
 have HX2 : Hid (Rg w2 (w.heap.size + 1) (etyC x)) := Lib.hid (by
  rw [← hw2, ← hxs]
  have h9 := rg_new (w.alloc (.cells gs 52)) 24 (etyC x)
  rw [World.size_alloc] at h9
  exact h9)
 have HB2 : Hid (Below w.heap.size w w2) := Lib.hid (by rw [← hw2]; exact below_new (below_alloc_new _) _)
 have hs2 : w2.heap.size = w.heap.size + 2 := by rw [← hw2]; simp
 have HS2 := Lib.hid hs2
 clear hV hGV hXV hgs hxs hxV hs2 hk hx hs hw
 go_enter Try.func43, Try.ntmps43
 go_wp2_with (go_at_call 55; refine (echecks_any _).mono ?_; rintro e w3 ⟨rfl, hw3⟩; have HW3 := Lib.hid hw3; clear hw3)
 have HF3 : Hid (Rg w3 w2.heap.size [.func (.func 69) #[] #[], .func (.func 70) #[] #[], .func (.func 71) #[] #[], .func (.func 72) #[] #[], .func (.func 73) #[] #[], .func (.func 74) #[] #[]]) := Lib.hid (by rw [HW3.out]; exact rg_new w2 _ _)
 have hB3 : Below w2.heap.size w2 w3 := by rw [HW3.out]; exact below_alloc_new _
 have HB3 := Lib.hid (HB2.out.trans (hB3.mono HB2.out.size))
 have HG3 := Lib.hid (HG2.out.up hB3)
 have HX3 := Lib.hid (HX2.out.up hB3)
 clear hB3 HG2 HX2 HB2 HW3
 go_loopg [10] 6 (fun kx s10 wr => ∃ k : Nat, s10 = .int .i64 k ∧ k ≤ 6 ∧ 6 - k ≤ kx ∧ (0 < k → r0 = 0) ∧ (1 < k → r1 = 0) ∧ (2 < k → r2 = 0) ∧ (3 < k → r3 = 0) ∧ (4 < k → r4 = 0) ∧ (5 < k → r5 = 0) ∧ Below w3.heap.size w3 wr)
 case atStart => exact ⟨0, rfl, by omega, by omega, fun h => absurd h (by omega), fun h => absurd h (by omega), fun h => absurd h (by omega), fun h => absurd h (by omega), fun h => absurd h (by omega), fun h => absurd h (by omega), Below.refl _ _⟩
 case round =>
  obtain ⟨k, rfl, hk, hkx, q0, q1, q2, q3, q4, q5, hBi⟩ := hrel
  have hF := HF3.out.up hBi
  have HG := Lib.hid (HG3.out.up hBi)
  have HX := Lib.hid (HX3.out.up hBi)
  have HBW := Lib.hid (HB3.out.trans (hBi.mono HB3.out.size))
  have HBI := Lib.hid hBi
  have HLG : Hid ((Instr.loadAt 52 (.pointer (some ⟨w.heap.size, 0, none⟩))).run Try.prog wr = .ok GV wr) := Lib.hid (by rw [HGV.out, grpV_is]; exact HG.out.load 0 52 (grpC g) rfl _ Try.underlying52 rfl (by kernel_rfl))
  have HLX : Hid ((Instr.loadAt 24 (.pointer (some ⟨w.heap.size + 1, 0, none⟩))).run Try.prog wr = .ok XV wr) := Lib.hid (by rw [HXV.out, etyV_is]; exact HX.out.load 0 24 (etyC x) rfl _ Try.underlying24 rfl (by kernel_rfl))
  clear hBi
  have hk6 : k = 0 ∨ k = 1 ∨ k = 2 ∨ k = 3 ∨ k = 4 ∨ k = 5 ∨ k = 6 := by omega
  rcases hk6 with rfl | rfl | rfl | rfl | rfl | rfl | rfl
  ·have c0 := hF.cell 0 _ rfl
   have HJ := H0
   by_cases hr : r0 = 0
   ·have HR := Lib.hid hr
    have e0 : (r0 != 0) = false := by simp [hr]
    clear hr hF
    go_wp2_with (first
     | (refine wpList_load_is rfl 52 _ rfl (.pointer (some ⟨w.heap.size, 0, none⟩)) rfl GV HLG.out ?_)
     | (refine wpList_load_is rfl 24 _ rfl (.pointer (some ⟨w.heap.size + 1, 0, none⟩)) rfl XV HLX.out ?_)
     | (refine wpList_build_is rfl 112 _ rfl [(0, GV), (1, XV)] rfl V (HBD.out _) ?_)
     | (go_at_call 69; refine (HJ.out _ HBW.out).mono ?_; rintro e w5 ⟨rfl, hb5⟩; have HB5 := Lib.hid (HBI.out.trans (hb5.mono HBI.out.size)); clear hb5))
    go_roundg 5
    case measure => omega
    case rel => exact ⟨1, by first | rfl | go_num, by omega, by omega, fun _ => HR.out, fun h => absurd h (by omega), fun h => absurd h (by omega), fun h => absurd h (by omega), fun h => absurd h (by omega), fun h => absurd h (by omega), HB5.out⟩
   ·have E : Hid (fst6 r0 r1 r2 r3 r4 r5 = r0) := Lib.hid (by unfold fst6; rw [if_neg hr])
    have e0 : (r0 != 0) = true := by simp [hr]
    clear hr hF q0 q1 q2 q3 q4 q5
    go_wp2_with (first
     | (refine wpList_load_is rfl 52 _ rfl (.pointer (some ⟨w.heap.size, 0, none⟩)) rfl GV HLG.out ?_)
     | (refine wpList_load_is rfl 24 _ rfl (.pointer (some ⟨w.heap.size + 1, 0, none⟩)) rfl XV HLX.out ?_)
     | (refine wpList_build_is rfl 112 _ rfl [(0, GV), (1, XV)] rfl V (HBD.out _) ?_)
     | (go_at_call 69; refine (HJ.out _ HBW.out).mono ?_; rintro e w5 ⟨rfl, hb5⟩; have HB5 := Lib.hid (HBI.out.trans (hb5.mono HBI.out.size)); clear hb5))
    go_ret
    exact ⟨by rw [E.out]; rfl, HB3.out.trans (HB5.out.mono HB3.out.size)⟩
  ·have c0 := hF.cell 1 _ rfl
   have HJ := H1
   by_cases hr : r1 = 0
   ·have HR := Lib.hid hr
    have e0 : (r1 != 0) = false := by simp [hr]
    clear hr hF
    go_wp2_with (first
     | (refine wpList_load_is rfl 52 _ rfl (.pointer (some ⟨w.heap.size, 0, none⟩)) rfl GV HLG.out ?_)
     | (refine wpList_load_is rfl 24 _ rfl (.pointer (some ⟨w.heap.size + 1, 0, none⟩)) rfl XV HLX.out ?_)
     | (refine wpList_build_is rfl 112 _ rfl [(0, GV), (1, XV)] rfl V (HBD.out _) ?_)
     | (go_at_call 70; refine (HJ.out _ HBW.out).mono ?_; rintro e w5 ⟨rfl, hb5⟩; have HB5 := Lib.hid (HBI.out.trans (hb5.mono HBI.out.size)); clear hb5))
    go_roundg 4
    case measure => omega
    case rel => exact ⟨2, by first | rfl | go_num, by omega, by omega, fun _ => q0 (by omega), fun _ => HR.out, fun h => absurd h (by omega), fun h => absurd h (by omega), fun h => absurd h (by omega), fun h => absurd h (by omega), HB5.out⟩
   ·have E : Hid (fst6 r0 r1 r2 r3 r4 r5 = r1) := Lib.hid (by unfold fst6; rw [if_pos (q0 (by omega)), if_neg hr])
    have e0 : (r1 != 0) = true := by simp [hr]
    clear hr hF q0 q1 q2 q3 q4 q5
    go_wp2_with (first
     | (refine wpList_load_is rfl 52 _ rfl (.pointer (some ⟨w.heap.size, 0, none⟩)) rfl GV HLG.out ?_)
     | (refine wpList_load_is rfl 24 _ rfl (.pointer (some ⟨w.heap.size + 1, 0, none⟩)) rfl XV HLX.out ?_)
     | (refine wpList_build_is rfl 112 _ rfl [(0, GV), (1, XV)] rfl V (HBD.out _) ?_)
     | (go_at_call 70; refine (HJ.out _ HBW.out).mono ?_; rintro e w5 ⟨rfl, hb5⟩; have HB5 := Lib.hid (HBI.out.trans (hb5.mono HBI.out.size)); clear hb5))
    go_ret
    exact ⟨by rw [E.out]; rfl, HB3.out.trans (HB5.out.mono HB3.out.size)⟩
  ·have c0 := hF.cell 2 _ rfl
   have HJ := H2
   by_cases hr : r2 = 0
   ·have HR := Lib.hid hr
    have e0 : (r2 != 0) = false := by simp [hr]
    clear hr hF
    go_wp2_with (first
     | (refine wpList_load_is rfl 52 _ rfl (.pointer (some ⟨w.heap.size, 0, none⟩)) rfl GV HLG.out ?_)
     | (refine wpList_load_is rfl 24 _ rfl (.pointer (some ⟨w.heap.size + 1, 0, none⟩)) rfl XV HLX.out ?_)
     | (refine wpList_build_is rfl 112 _ rfl [(0, GV), (1, XV)] rfl V (HBD.out _) ?_)
     | (go_at_call 71; refine (HJ.out _ HBW.out).mono ?_; rintro e w5 ⟨rfl, hb5⟩; have HB5 := Lib.hid (HBI.out.trans (hb5.mono HBI.out.size)); clear hb5))
    go_roundg 3
    case measure => omega
    case rel => exact ⟨3, by first | rfl | go_num, by omega, by omega, fun _ => q0 (by omega), fun _ => q1 (by omega), fun _ => HR.out, fun h => absurd h (by omega), fun h => absurd h (by omega), fun h => absurd h (by omega), HB5.out⟩
   ·have E : Hid (fst6 r0 r1 r2 r3 r4 r5 = r2) := Lib.hid (by unfold fst6; rw [if_pos (q0 (by omega)), if_pos (q1 (by omega)), if_neg hr])
    have e0 : (r2 != 0) = true := by simp [hr]
    clear hr hF q0 q1 q2 q3 q4 q5
    go_wp2_with (first
     | (refine wpList_load_is rfl 52 _ rfl (.pointer (some ⟨w.heap.size, 0, none⟩)) rfl GV HLG.out ?_)
     | (refine wpList_load_is rfl 24 _ rfl (.pointer (some ⟨w.heap.size + 1, 0, none⟩)) rfl XV HLX.out ?_)
     | (refine wpList_build_is rfl 112 _ rfl [(0, GV), (1, XV)] rfl V (HBD.out _) ?_)
     | (go_at_call 71; refine (HJ.out _ HBW.out).mono ?_; rintro e w5 ⟨rfl, hb5⟩; have HB5 := Lib.hid (HBI.out.trans (hb5.mono HBI.out.size)); clear hb5))
    go_ret
    exact ⟨by rw [E.out]; rfl, HB3.out.trans (HB5.out.mono HB3.out.size)⟩
  ·have c0 := hF.cell 3 _ rfl
   have HJ := Lib.hid (H3.out (HE.out (q0 (by omega))))
   by_cases hr : r3 = 0
   ·have HR := Lib.hid hr
    have e0 : (r3 != 0) = false := by simp [hr]
    clear hr hF
    go_wp2_with (first
     | (refine wpList_load_is rfl 52 _ rfl (.pointer (some ⟨w.heap.size, 0, none⟩)) rfl GV HLG.out ?_)
     | (refine wpList_load_is rfl 24 _ rfl (.pointer (some ⟨w.heap.size + 1, 0, none⟩)) rfl XV HLX.out ?_)
     | (refine wpList_build_is rfl 112 _ rfl [(0, GV), (1, XV)] rfl V (HBD.out _) ?_)
     | (go_at_call 72; refine (HJ.out _ HBW.out).mono ?_; rintro e w5 ⟨rfl, hb5⟩; have HB5 := Lib.hid (HBI.out.trans (hb5.mono HBI.out.size)); clear hb5))
    go_roundg 2
    case measure => omega
    case rel => exact ⟨4, by first | rfl | go_num, by omega, by omega, fun _ => q0 (by omega), fun _ => q1 (by omega), fun _ => q2 (by omega), fun _ => HR.out, fun h => absurd h (by omega), fun h => absurd h (by omega), HB5.out⟩
   ·have E : Hid (fst6 r0 r1 r2 r3 r4 r5 = r3) := Lib.hid (by unfold fst6; rw [if_pos (q0 (by omega)), if_pos (q1 (by omega)), if_pos (q2 (by omega)), if_neg hr])
    have e0 : (r3 != 0) = true := by simp [hr]
    clear hr hF q0 q1 q2 q3 q4 q5
    go_wp2_with (first
     | (refine wpList_load_is rfl 52 _ rfl (.pointer (some ⟨w.heap.size, 0, none⟩)) rfl GV HLG.out ?_)
     | (refine wpList_load_is rfl 24 _ rfl (.pointer (some ⟨w.heap.size + 1, 0, none⟩)) rfl XV HLX.out ?_)
     | (refine wpList_build_is rfl 112 _ rfl [(0, GV), (1, XV)] rfl V (HBD.out _) ?_)
     | (go_at_call 72; refine (HJ.out _ HBW.out).mono ?_; rintro e w5 ⟨rfl, hb5⟩; have HB5 := Lib.hid (HBI.out.trans (hb5.mono HBI.out.size)); clear hb5))
    go_ret
    exact ⟨by rw [E.out]; rfl, HB3.out.trans (HB5.out.mono HB3.out.size)⟩
  ·have c0 := hF.cell 4 _ rfl
   have HJ := H4
   by_cases hr : r4 = 0
   ·have HR := Lib.hid hr
    have e0 : (r4 != 0) = false := by simp [hr]
    clear hr hF
    go_wp2_with (first
     | (refine wpList_load_is rfl 52 _ rfl (.pointer (some ⟨w.heap.size, 0, none⟩)) rfl GV HLG.out ?_)
     | (refine wpList_load_is rfl 24 _ rfl (.pointer (some ⟨w.heap.size + 1, 0, none⟩)) rfl XV HLX.out ?_)
     | (refine wpList_build_is rfl 112 _ rfl [(0, GV), (1, XV)] rfl V (HBD.out _) ?_)
     | (go_at_call 73; refine (HJ.out _ HBW.out).mono ?_; rintro e w5 ⟨rfl, hb5⟩; have HB5 := Lib.hid (HBI.out.trans (hb5.mono HBI.out.size)); clear hb5))
    go_roundg 1
    case measure => omega
    case rel => exact ⟨5, by first | rfl | go_num, by omega, by omega, fun _ => q0 (by omega), fun _ => q1 (by omega), fun _ => q2 (by omega), fun _ => q3 (by omega), fun _ => HR.out, fun h => absurd h (by omega), HB5.out⟩
   ·have E : Hid (fst6 r0 r1 r2 r3 r4 r5 = r4) := Lib.hid (by unfold fst6; rw [if_pos (q0 (by omega)), if_pos (q1 (by omega)), if_pos (q2 (by omega)), if_pos (q3 (by omega)), if_neg hr])
    have e0 : (r4 != 0) = true := by simp [hr]
    clear hr hF q0 q1 q2 q3 q4 q5
    go_wp2_with (first
     | (refine wpList_load_is rfl 52 _ rfl (.pointer (some ⟨w.heap.size, 0, none⟩)) rfl GV HLG.out ?_)
     | (refine wpList_load_is rfl 24 _ rfl (.pointer (some ⟨w.heap.size + 1, 0, none⟩)) rfl XV HLX.out ?_)
     | (refine wpList_build_is rfl 112 _ rfl [(0, GV), (1, XV)] rfl V (HBD.out _) ?_)
     | (go_at_call 73; refine (HJ.out _ HBW.out).mono ?_; rintro e w5 ⟨rfl, hb5⟩; have HB5 := Lib.hid (HBI.out.trans (hb5.mono HBI.out.size)); clear hb5))
    go_ret
    exact ⟨by rw [E.out]; rfl, HB3.out.trans (HB5.out.mono HB3.out.size)⟩
  ·have c0 := hF.cell 5 _ rfl
   have HJ := H5
   by_cases hr : r5 = 0
   ·have HR := Lib.hid hr
    have e0 : (r5 != 0) = false := by simp [hr]
    clear hr hF
    go_wp2_with (first
     | (refine wpList_load_is rfl 52 _ rfl (.pointer (some ⟨w.heap.size, 0, none⟩)) rfl GV HLG.out ?_)
     | (refine wpList_load_is rfl 24 _ rfl (.pointer (some ⟨w.heap.size + 1, 0, none⟩)) rfl XV HLX.out ?_)
     | (refine wpList_build_is rfl 112 _ rfl [(0, GV), (1, XV)] rfl V (HBD.out _) ?_)
     | (go_at_call 74; refine (HJ.out _ HBW.out).mono ?_; rintro e w5 ⟨rfl, hb5⟩; have HB5 := Lib.hid (HBI.out.trans (hb5.mono HBI.out.size)); clear hb5))
    go_roundg 0
    case measure => omega
    case rel => exact ⟨6, by first | rfl | go_num, by omega, by omega, fun _ => q0 (by omega), fun _ => q1 (by omega), fun _ => q2 (by omega), fun _ => q3 (by omega), fun _ => q4 (by omega), fun _ => HR.out, HB5.out⟩
   ·have E : Hid (fst6 r0 r1 r2 r3 r4 r5 = r5) := Lib.hid (by unfold fst6; rw [if_pos (q0 (by omega)), if_pos (q1 (by omega)), if_pos (q2 (by omega)), if_pos (q3 (by omega)), if_pos (q4 (by omega))])
    have e0 : (r5 != 0) = true := by simp [hr]
    clear hr hF q0 q1 q2 q3 q4 q5
    go_wp2_with (first
     | (refine wpList_load_is rfl 52 _ rfl (.pointer (some ⟨w.heap.size, 0, none⟩)) rfl GV HLG.out ?_)
     | (refine wpList_load_is rfl 24 _ rfl (.pointer (some ⟨w.heap.size + 1, 0, none⟩)) rfl XV HLX.out ?_)
     | (refine wpList_build_is rfl 112 _ rfl [(0, GV), (1, XV)] rfl V (HBD.out _) ?_)
     | (go_at_call 74; refine (HJ.out _ HBW.out).mono ?_; rintro e w5 ⟨rfl, hb5⟩; have HB5 := Lib.hid (HBI.out.trans (hb5.mono HBI.out.size)); clear hb5))
    go_ret
    exact ⟨by rw [E.out]; rfl, HB3.out.trans (HB5.out.mono HB3.out.size)⟩
  ·have E : Hid (fst6 r0 r1 r2 r3 r4 r5 = 0) := Lib.hid (by unfold fst6; rw [if_pos (q0 (by omega)), if_pos (q1 (by omega)), if_pos (q2 (by omega)), if_pos (q3 (by omega)), if_pos (q4 (by omega))]; exact q5 (by omega))
   clear hF q0 q1 q2 q3 q4 q5
   go_wp2_with fail
   go_ret
   exact ⟨by rw [E.out]; rfl, HBW.out⟩
open Go.RowKit Go.Maps
structure PE where
 id : Int
 ent : Int
 day : Int
 kind : Int
 of_ : Int
 txt : ByteArray
 ls : List Lnk
abbrev Etl := Ety × List Lnk
def pe (p : Etl) : PE := ⟨p.1.id, p.1.ent, p.1.day, p.1.kind, p.1.of_, p.1.txt, p.2⟩
def idxP (Es : List PE) (id : Int) : Nat := Es.findIdx fun e => decide (e.id = id)
def isRv (id : Int) (e : PE) : Bool := decide (e.kind = 3) && decide (e.of_ = id)
def revO (Es : List PE) (id : Int) : Option PE := Es.find? (isRv id)
structure GoodP (Es : List PE) : Prop where
 pos : ∀ e ∈ Es, 1 ≤ e.id
 wf : ∀ e ∈ Es, (Lit.int .i64 e.id).wf = true
def idxF (Es : List PE) (id : Int) : Option Value := if idxP Es id < Es.length then some (.int .i64 (idxP Es id : Nat)) else none
def revF (Es : List PE) (id : Int) : Option Value := (revO Es id).map fun e => .int .i64 e.id
def EtysK (w : World) (Xs : List Etl) : Prop := ∀ p ∈ Xs, EtyK w p.1 p.2
structure JD where
 b : Nat
 g : Grp
 L : List Acc
 G : List Ent
 A : Option Addr
 n : Nat
 c : Nat
 Xs : List Etl
 bi : Nat
 br : Nat
def JD.Es (j : JD) : List PE := j.Xs.map pe
def JC (j : JD) : List Value := grpC j.g ++ [.slice j.A j.n j.c, .map (some j.bi), .map (some j.br)]
structure JK (M : Nat → Prop) (B : Nat) (w : World) (j : JD) : Prop where
 box : Wh 59 w j.b (JC j)
 row : OwnR lyX 24 w B (.slice j.A j.n j.c) (j.Xs.map (·.1))
 ln : j.Xs.length = j.n
 idx : MapV w j.bi j.n (idxF j.Es)
 rev : MapV w j.br j.n (revF j.Es)
 grp : Im M (fun w => GrK w j.g j.L j.G) w
 ets : Im M (fun w => EtysK w j.Xs) w
 mb : M j.b
 mi : M j.bi
 mr : M j.br
 mx : ∀ k, (Value.slice j.A j.n j.c).ownBlock = some k → M k
 ne : j.bi ≠ j.br
 hs : Sm j.g j.G
 hw : GrW j.g j.L j.G
 good : GoodP j.Es
section
variable {M : Nat → Prop} {B : Nat} {w w' : World} {j : JD}
theorem JK.up (h : JK M B w j) (hb : Below w.heap.size w w') : JK M B w' j :=
 ⟨h.box.up hb, h.row.up hb, h.ln, h.idx.up hb, h.rev.up hb, h.grp.on (Only.of hb), h.ets.on (Only.of hb), h.mb, h.mi, h.mr, h.mx, h.ne, h.hs, h.hw, h.good⟩
end
def ety0 : Ety := ⟨0, 0, 0, 0, 0, ⟨#[]⟩, none, 0, 0⟩
theorem ety0_k (w : World) : EtyK w ety0 [] := ⟨rfl, LnkAt.nil, fun l hl => by cases hl⟩
open Go.RowKit
theorem infoAcJ : (Try.prog.info? 82).map (fun i => (i.zero, i.size, i.bytes)) = some (some (.agg #[.int .i64 0, .int .i64 0, .int .i64 0, .int .i64 0]), 4, 32) := by kernel_rfl
set_option maxRecDepth 100000 in
set_option maxHeartbeats 3200000 in
theorem cloneL_any (A : Option Addr) (c : Nat) (X : List Lnk) (w : World) (hz : RowAt lyL w A X) (hl : X.length ≤ 100000) : Calls Try.prog 30 #[.slice A X.length c] w fun e w' => (∃ A' c', e = .returned (.slice A' X.length c') ∧ OwnR lyL 32 w' w.heap.size (.slice A' X.length c') X) ∧ Below w.heap.size w w' := by
 obtain ⟨n, hn⟩ : ∃ n, X.length = n := ⟨_, rfl⟩
 rw [hn] at hl ⊢
 have HN := Lib.hid hn
 have HZ := Lib.hid hz
 clear hz hn
 obtain ⟨i0, hi, hz1, hz2, hz3⟩ := info_parts infoLn
 rcases A with _ | ad
 ·have hx : X = [] := by
   rcases X with _ | ⟨x, X⟩
   ·rfl
   ·obtain ⟨b, off, e, _⟩ := HZ.out (by simp)
    cases e
  have hn0 : n = 0 := by rw [← HN.out, hx]; rfl
  subst hn0
  have HX := Lib.hid hx
  clear hx
  have kn := fun w : World => Lib.run_eql_slice_nil (P := Try.prog) w 22 32 none 0 c 0 0 Try.underlying22
  go_enter Try.func30, Try.ntmps30
  go_wp2_with fail
  go_ret
  exact ⟨⟨none, 0, rfl, by rw [HX.out]; exact OwnR.nil⟩, Below.refl _ _⟩
 ·have HB := Lib.hid (below_alloc_new (w := w) (.cells #[] 32))
  have HE : Hid (OwnR lyL 32 (w.alloc (.cells #[] 32)) w.heap.size (.slice (some ⟨w.heap.size, 0, none⟩) 0 0) []) := Lib.hid (OwnR.empty (Nat.le_refl _))
  have HZ2 := Lib.hid (HZ.out.up HB.out)
  have kn := fun w : World => Lib.run_eql_slice_nil (P := Try.prog) w 22 32 (some ad) n c 0 0 Try.underlying22
  go_enter Try.func30, Try.ntmps30
  go_wp2_with (at_builtin; refine wpList_app_row (R := lyL) (v := .slice (some ⟨w.heap.size, 0, none⟩) 0 0) rfl (.tmp 5) (.tmp 6) 22 rfl i0 _ 24 Try.underlying22 hi hz1 hz2 hz3 (by omega) rfl rfl HE.out (some ad) n c X HN.out rfl HZ2.out (by simp; omega) (Nat.le_of_lt (by simp)) ?_; intro v5 w5 ho5 hg5 hn5; obtain ⟨A5, c5, e5, -, -⟩ := ho5.out.reads; rw [List.nil_append, HN.out] at e5; obtain rfl := e5; have HO5 : Hid (OwnR lyL 32 w5 w.heap.size (.slice A5 n c5) X) := Lib.hid ho5.out; have HB5 : Hid (Below w.heap.size w w5) := Lib.hid (HB.out.grown hg5.out (by simp) (fun k hk => Nat.le_of_eq (Option.some.inj hk))); clear ho5 hg5 hn5)
  go_ret
  exact ⟨⟨A5, c5, rfl, HO5.out⟩, HB5.out⟩
set_option maxRecDepth 100000 in
set_option maxHeartbeats 3200000 in
theorem cloneA_any (A : Option Addr) (c : Nat) (X : List Acc) (w : World) (hz : RowAt lyA w A X) (hl : X.length ≤ 100000) : Calls Try.prog 54 #[.slice A X.length c] w fun e w' => (∃ A' c', e = .returned (.slice A' X.length c') ∧ OwnR lyA 82 w' w.heap.size (.slice A' X.length c') X) ∧ Below w.heap.size w w' := by
 obtain ⟨n, hn⟩ : ∃ n, X.length = n := ⟨_, rfl⟩
 rw [hn] at hl ⊢
 have HN := Lib.hid hn
 have HZ := Lib.hid hz
 clear hz hn
 obtain ⟨i0, hi, hz1, hz2, hz3⟩ := info_parts infoAcJ
 rcases A with _ | ad
 ·have hx : X = [] := by
   rcases X with _ | ⟨x, X⟩
   ·rfl
   ·obtain ⟨b, off, e, _⟩ := HZ.out (by simp)
    cases e
  have hn0 : n = 0 := by rw [← HN.out, hx]; rfl
  subst hn0
  have HX := Lib.hid hx
  clear hx
  have kn := fun w : World => Lib.run_eql_slice_nil (P := Try.prog) w 47 82 none 0 c 0 0 Try.underlying47
  go_enter Try.func54, Try.ntmps54
  go_wp2_with fail
  go_ret
  exact ⟨⟨none, 0, rfl, by rw [HX.out]; exact OwnR.nil⟩, Below.refl _ _⟩
 ·have HB := Lib.hid (below_alloc_new (w := w) (.cells #[] 82))
  have HE : Hid (OwnR lyA 82 (w.alloc (.cells #[] 82)) w.heap.size (.slice (some ⟨w.heap.size, 0, none⟩) 0 0) []) := Lib.hid (OwnR.empty (Nat.le_refl _))
  have HZ2 := Lib.hid (HZ.out.up HB.out)
  have kn := fun w : World => Lib.run_eql_slice_nil (P := Try.prog) w 47 82 (some ad) n c 0 0 Try.underlying47
  go_enter Try.func54, Try.ntmps54
  go_wp2_with (at_builtin; refine wpList_app_row (R := lyA) (v := .slice (some ⟨w.heap.size, 0, none⟩) 0 0) rfl (.tmp 5) (.tmp 6) 47 rfl i0 _ 32 Try.underlying47 hi hz1 hz2 hz3 (by omega) rfl rfl HE.out (some ad) n c X HN.out rfl HZ2.out (by simp; omega) (Nat.le_of_lt (by simp)) ?_; intro v5 w5 ho5 hg5 hn5; obtain ⟨A5, c5, e5, -, -⟩ := ho5.out.reads; rw [List.nil_append, HN.out] at e5; obtain rfl := e5; have HO5 : Hid (OwnR lyA 82 w5 w.heap.size (.slice A5 n c5) X) := Lib.hid ho5.out; have HB5 : Hid (Below w.heap.size w w5) := Lib.hid (HB.out.grown hg5.out (by simp) (fun k hk => Nat.le_of_eq (Option.some.inj hk))); clear ho5 hg5 hn5)
  go_ret
  exact ⟨⟨A5, c5, rfl, HO5.out⟩, HB5.out⟩
set_option maxRecDepth 100000 in
set_option maxHeartbeats 3200000 in
theorem cloneE_any (A : Option Addr) (c : Nat) (X : List Ent) (w : World) (hz : RowAt lyE w A X) (hl : X.length ≤ 100000) : Calls Try.prog 42 #[.slice A X.length c] w fun e w' => (∃ A' c', e = .returned (.slice A' X.length c') ∧ OwnR lyE 71 w' w.heap.size (.slice A' X.length c') X) ∧ Below w.heap.size w w' := by
 obtain ⟨n, hn⟩ : ∃ n, X.length = n := ⟨_, rfl⟩
 rw [hn] at hl ⊢
 have HN := Lib.hid hn
 have HZ := Lib.hid hz
 clear hz hn
 obtain ⟨i0, hi, hz1, hz2, hz3⟩ := info_parts infoEn
 rcases A with _ | ad
 ·have hx : X = [] := by
   rcases X with _ | ⟨x, X⟩
   ·rfl
   ·obtain ⟨b, off, e, _⟩ := HZ.out (by simp)
    cases e
  have hn0 : n = 0 := by rw [← HN.out, hx]; rfl
  subst hn0
  have HX := Lib.hid hx
  clear hx
  have kn := fun w : World => Lib.run_eql_slice_nil (P := Try.prog) w 50 71 none 0 c 0 0 Try.underlying50
  go_enter Try.func42, Try.ntmps42
  go_wp2_with fail
  go_ret
  exact ⟨⟨none, 0, rfl, by rw [HX.out]; exact OwnR.nil⟩, Below.refl _ _⟩
 ·have HB := Lib.hid (below_alloc_new (w := w) (.cells #[] 71))
  have HE : Hid (OwnR lyE 71 (w.alloc (.cells #[] 71)) w.heap.size (.slice (some ⟨w.heap.size, 0, none⟩) 0 0) []) := Lib.hid (OwnR.empty (Nat.le_refl _))
  have HZ2 := Lib.hid (HZ.out.up HB.out)
  have kn := fun w : World => Lib.run_eql_slice_nil (P := Try.prog) w 50 71 (some ad) n c 0 0 Try.underlying50
  go_enter Try.func42, Try.ntmps42
  go_wp2_with (at_builtin; refine wpList_app_row (R := lyE) (v := .slice (some ⟨w.heap.size, 0, none⟩) 0 0) rfl (.tmp 5) (.tmp 6) 50 rfl i0 _ 88 Try.underlying50 hi hz1 hz2 hz3 (by omega) rfl rfl HE.out (some ad) n c X HN.out rfl HZ2.out (by simp; omega) (Nat.le_of_lt (by simp)) ?_; intro v5 w5 ho5 hg5 hn5; obtain ⟨A5, c5, e5, -, -⟩ := ho5.out.reads; rw [List.nil_append, HN.out] at e5; obtain rfl := e5; have HO5 : Hid (OwnR lyE 71 w5 w.heap.size (.slice A5 n c5) X) := Lib.hid ho5.out; have HB5 : Hid (Below w.heap.size w w5) := Lib.hid (HB.out.grown hg5.out (by simp) (fun k hk => Nat.le_of_eq (Option.some.inj hk))); clear ho5 hg5 hn5)
  go_ret
  exact ⟨⟨A5, c5, rfl, HO5.out⟩, HB5.out⟩
def Ety.at (x : Ety) (A : Option Addr) (c : Nat) : Ety := { x with A := A, c := c }
set_option maxRecDepth 100000 in
set_option maxHeartbeats 3200000 in
theorem copyof_any (x : Ety) (X : List Lnk) (w : World) (hx : EtyK w x X) (hn : x.n ≤ 1000) : Calls Try.prog 16 #[etyV x] w fun e w' => (∃ A c, e = .returned (etyV (x.at A c)) ∧ OwnR lyL 32 w' w.heap.size (.slice A x.n c) X) ∧ Below w.heap.size w w' := by
 have HC := Lib.hid (fun W (h : LnkAt W x.A X) => cloneL_any x.A x.c X W (lnk_row.2 h) (by rw [hx.ln]; omega))
 rw [hx.ln] at HC
 obtain ⟨s0, hs0⟩ : ∃ s0, w.heap.size = s0 := ⟨_, rfl⟩
 obtain ⟨w2, hw2⟩ : ∃ w2, (w.alloc (.cells (etyC x).toArray 24)).alloc (.cells #[.int .i64 0, .int .i64 0, .int .i64 0, .int .i64 0, .int .i64 0, .string ⟨#[]⟩, .slice none 0 0] 24) = w2 := ⟨_, rfl⟩
 have hXB : Wh 24 w2 s0 (etyC x) := by rw [← hw2, ← hs0]; exact (Wh.new w _ _).up (below_alloc_new _)
 have HRB : Hid (Wh 24 w2 (s0 + 1) [.int .i64 0, .int .i64 0, .int .i64 0, .int .i64 0, .int .i64 0, .string ⟨#[]⟩, .slice none 0 0]) := Lib.hid (by
  rw [← hw2, ← hs0]
  have h9 := Wh.new (w.alloc (.cells (etyC x).toArray 24)) 24 [.int .i64 0, .int .i64 0, .int .i64 0, .int .i64 0, .int .i64 0, .string ⟨#[]⟩, .slice none 0 0]
  rw [World.size_alloc] at h9
  exact h9)
 have HB2 : Hid (Below s0 w w2) := Lib.hid (by rw [← hw2, ← hs0]; exact below_new (below_alloc_new _) _)
 have HS2 : Hid (w2.heap.size = s0 + 2) := Lib.hid (by rw [← hw2, ← hs0]; simp)
 have HX2 := Lib.hid (hx.hz.up (HB2.out.mono (Nat.le_of_eq hs0)))
 have c6 := hXB.at 6 _ rfl
 have HXB := Lib.hid hXB
 have HS0 := Lib.hid hs0
 have hw3 : (etyC x).toArray = #[.int .i64 x.id, .int .i64 x.ent, .int .i64 x.day, .int .i64 x.kind, .int .i64 x.of_, .string x.txt, .slice x.A x.n x.c] := rfl
 rw [hw3] at hw2
 clear hx hw3 hXB
 go_enter Try.func16, Try.ntmps16
 go_upto_region 2 with (go_at_call 30; refine (HC.out _ HX2.out).mono ?_; rintro e w3 ⟨⟨A, c, rfl, ho⟩, hb⟩; have hx3 := HXB.out.up hb; have z6 := hx3.at 6 _ rfl; have y6 := hx3.frozen 6; have HX3 := Lib.hid hx3; have HR3 := Lib.hid (HRB.out.up hb); have HO3 := Lib.hid ho; have HB3 := Lib.hid hb; clear hx3 ho hb)
 have hX4 : Wh 24 (w3.setCell ⟨s0, 6, none⟩ (.slice A x.n c)) s0 (etyC (x.at A c)) := HX3.out.set 6 _
 have hR4 := HR3.out.same (Below.heap_setCell w3 ⟨s0, 6, none⟩ (.slice A x.n c) (s0 + 1) (by show s0 + 1 ≠ s0; omega))
 have hO4 : OwnR lyL 32 (w3.setCell ⟨s0, 6, none⟩ (.slice A x.n c)) w2.heap.size (.slice A x.n c) X := HO3.out.blk fun g hg => Below.heap_setCell w3 ⟨s0, 6, none⟩ _ g (by have := (HO3.out.lt hg).1; have := HS2.out; show g ≠ s0; omega)
 have hB4 : Below s0 w (w3.setCell ⟨s0, 6, none⟩ (.slice A x.n c)) := Below.setCell (p := ⟨s0, 6, none⟩) (HB2.out.trans (HB3.out.mono (by have := HS2.out; omega))) (Nat.le_refl _) _
 clear z6 y6 c6 HX3 HR3 HO3 HB3 HXB HRB HX2 hw2
 generalize w3.setCell ⟨s0, 6, none⟩ (.slice A x.n c) = w4 at *
 have HL : Hid ((Instr.loadAt 24 (.pointer (some ⟨s0, 0, none⟩))).run Try.prog w4 = .ok (etyV (x.at A c)) w4) := Lib.hid (hX4.rg.load 0 24 (etyC (x.at A c)) rfl _ Try.underlying24 rfl (by kernel_rfl))
 have HR4 := Lib.hid hR4
 have HO4 := Lib.hid hO4
 have HB4 := Lib.hid hB4
 have HM1 : True := trivial
 clear hX4 hR4 hO4 hB4
 go_wp2_with (first
  | (clear HM1; refine wpList_load_is rfl 24 _ rfl (.pointer (some ⟨s0, 0, none⟩)) rfl (etyV (x.at A c)) HL.out ?_)
  | (refine wpList_store_wh rfl 24 _ _ rfl (s0 + 1) rfl 24 [.int .i64 0, .int .i64 0, .int .i64 0, .int .i64 0, .int .i64 0, .string ⟨#[]⟩, .slice none 0 0] (etyC (x.at A c)) rfl HR4.out rfl (by kernel_rfl) (by kernel_rfl) ?_; intro w5 hr5 ho5 hz5))
 refine bodyPost_ret (v := etyV (x.at A c)) (results_cell_mid Try.results16 _ _ (s0 + 1) (etyC (x.at A c)) _ rfl hr5.out.range Try.underlying24 rfl (by kernel_rfl)) rfl ⟨⟨A, c, rfl, ?_⟩, ?_⟩
 ·exact (HO4.out.blk fun g hg => ho5.out.blk g (HO4.out.lt hg).2 (by have := (HO4.out.lt hg).1; have := HS2.out; show ¬ g = s0 + 1; omega)).low (by have := HS2.out; have := HS0.out; omega)
 ·have h9 := HB4.out.trans (ho5.out.below (B := s0) (fun k hk => by have h8 : k = s0 + 1 := hk; omega) (by have := HB4.out.size; have := HS0.out; omega))
  first | exact h9 | (rw [HS0.out]; exact h9)
theorem OwnR.frozen {α : Type} {R : Lay α} {e : TypeId} {w : World} {base g n c : Nat} {L : List α} (h : OwnR R e w base (.slice (some ⟨g, 0, none⟩) n c) L) (i : Nat) : w.frozen? ⟨g, i, none⟩ = false := by
 rcases h.2 with ⟨h1, _⟩ | ⟨g', cap, cur, h1, _, hg, _⟩
 ·cases h1
 ·injection h1 with h1 _ _
  injection h1 with h1
  injection h1 with h1 _ _
  subst h1
  simp [World.frozen?, hg]
def noPar (a : Acc) : Acc := { a with par := 0 }
theorem nopar_step {L : List Acc} {k : Nat} {a : Acc} (h : L[k]? = some a) : (((L.take k).map noPar) ++ L.drop k)[k]? = some a ∧ (((L.take k).map noPar) ++ L.drop k).set k (noPar a) = (L.take (k + 1)).map noPar ++ L.drop (k + 1) := by
 have hk : k < L.length := (List.getElem?_eq_some_iff.1 h).1
 have h1 : ((L.take k).map noPar).length = k := by rw [List.length_map, List.length_take]; omega
 have h2 : L.drop k = a :: L.drop (k + 1) := by
  rw [List.drop_eq_getElem_cons hk]
  rw [List.getElem?_eq_getElem hk] at h
  injection h with h
  rw [h]
 have h3 : L.take (k + 1) = L.take k ++ [a] := by rw [List.take_add_one, h]; rfl
 constructor
 ·rw [List.getElem?_append_right (by omega), h1, Nat.sub_self, h2]; rfl
 ·rw [List.set_append_right _ _ (by omega), h1, Nat.sub_self, h2, List.set_cons_zero, h3, List.map_append, List.append_assoc]; rfl
set_option maxRecDepth 100000 in
set_option maxHeartbeats 3200000 in
theorem wop_any (A : Option Addr) (c : Nat) (L : List Acc) (w : World) (hz : RowAt lyA w A L) (hl : L.length ≤ 1000) : Calls Try.prog 41 #[.slice A L.length c] w fun e w' => (∃ A' c', e = .returned (.slice A' L.length c') ∧ OwnR lyA 82 w' w.heap.size (.slice A' L.length c') (L.map noPar)) ∧ Below w.heap.size w w' := by
 have HC := Lib.hid (cloneA_any A c L w hz (by omega))
 obtain ⟨n, hn⟩ : ∃ n, L.length = n := ⟨_, rfl⟩
 rw [hn] at HC hl ⊢
 have HN := Lib.hid hn
 clear hz hn
 go_enter Try.func41, Try.ntmps41
 go_wp2_with (go_at_call 54; refine HC.out.mono ?_; rintro e w2 ⟨⟨A2, c2, rfl, ho⟩, hb⟩; have HO := Lib.hid ho; have HB := Lib.hid hb; clear ho hb)
 go_loopg [9] n (fun kx s9 wr => ∃ k : Nat, s9 = .int .i64 k ∧ k ≤ n ∧ n - k ≤ kx ∧ Hid (OwnR lyA 82 wr w.heap.size (.slice A2 n c2) ((L.take k).map noPar ++ L.drop k)) ∧ Hid (Below w.heap.size w wr))
 case atStart => exact ⟨0, rfl, by omega, by omega, HO, HB⟩
 case round =>
  clear HO HB
  obtain ⟨k, rfl, hk, hkx, HO, HB⟩ := hrel
  by_cases hlt : k < n
  ·have hltz : (k : Int) < (n : Int) := by omega
   obtain ⟨a, ha⟩ : ∃ a, L[k]? = some a := ⟨_, List.getElem?_eq_getElem (by rw [HN.out]; exact hlt)⟩
   obtain ⟨h1, h2⟩ := nopar_step ha
   obtain ⟨A9, c9, e9, hr, hg⟩ := HO.out.reads
   injection e9 with e9 q1 q2
   subst e9
   clear q1 q2
   obtain ⟨g, off, rfl, hgl, hrg⟩ := hr.at h1
   obtain ⟨-, rfl⟩ := hg g off rfl
   have z3 : wr.cell? ⟨g, k * 4 + 3, none⟩ = some (.int .i64 a.par) := by have := hrg 3 _ rfl; rwa [Nat.zero_add] at this
   have y3 := HO.out.frozen (k * 4 + 3)
   have HO2 : Hid (OwnR lyA 82 (wr.setCell ⟨g, k * 4 + 3, none⟩ (.int .i64 0)) w.heap.size (.slice (some ⟨g, 0, none⟩) n c2) ((L.take (k + 1)).map noPar ++ L.drop (k + 1))) := Lib.hid (by rw [← h2]; exact HO.out.setf (j := 3) h1 (by decide) _ rfl)
   have HB2 : Hid (Below w.heap.size w (wr.setCell ⟨g, k * 4 + 3, none⟩ (.int .i64 0))) := Lib.hid (Below.setCell (p := ⟨g, k * 4 + 3, none⟩) HB.out (HO.out.lt rfl).1 _)
   clear hr hrg hg ha h1 h2 HO HB
   go_wp2_with fail
   go_roundg (n - (k + 1))
   case measure => omega
   case rel => exact ⟨k + 1, by go_num, by omega, by omega, HO2, HB2⟩
  ·obtain rfl : k = n := by omega
   have hltz : ¬ (k : Int) < (k : Int) := by omega
   have hO9 := HO.out
   rw [← HN.out, List.take_length, List.drop_length, List.append_nil, HN.out] at hO9
   have HO9 := Lib.hid hO9
   clear hO9
   go_wp2_with fail
   go_ret
   exact ⟨⟨A2, c2, rfl, HO9.out⟩, HB.out⟩
end Go.Proofs.Ytbcphcheomojdaa
