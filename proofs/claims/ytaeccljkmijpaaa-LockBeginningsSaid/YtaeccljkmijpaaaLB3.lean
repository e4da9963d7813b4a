/- Contracts of the functions that the statements reach, part 3: what was proved of each, callees first. -/
import Derived.DeepKeys5
import Derived.Lib.SmallJoins
import Derived.Deep.MidRow
import Derived.BigQuiet
import Derived.Test.YtaeccljkmijpaaaLB2
namespace Go.Proofs.Ytaeccljkmijpaaa
def lnkB (L c : List Acc) (l : Lnk) : Bool := (fnd L l.frm).isSome && ((fnd c l.tgt).isSome && (decide ((fndA L l.frm).kind = (fndA c l.tgt).kind) && vdB l.since))
def smB (K : List Lnk) (i k : Nat) : Bool := decide ((K.getD k lnk0).frm = (K.getD i lnk0).frm) && decide ((K.getD k lnk0).since = (K.getD i lnk0).since)
def dfB (K : List Lnk) (i : Nat) : Bool := allTo (fun k => !smB K i k) i
def mvB (L : List Acc) (K : List Lnk) (c : List Acc) : Bool := vB c true && (vB L false && (decide (K.length ≤ 400) && (allTo (fun i => lnkB L c (K.getD i lnk0)) K.length && allTo (dfB K) K.length)))
open Go.RowKit Go.Maps
abbrev heldE : Value → Option (DataW Value × List MemPlace) := fun v => some (.held v, [])
section
variable {w w' : World} {b n m : Nat} {f : Int → Option Value}
end
theorem ts_keyed : Keyed Try.prog 120 := Keyed.of_law (deep_law_gate laid_out (by decide +kernel) (by decide +kernel) (by kernel_rfl) (by kernel_rfl))
theorem start_key {a b : Int} (ha : (Lit.int .i64 a).wf = true) (hb : (Lit.int .i64 b).wf = true) : ∃ l, keyOf Try.prog 120 (.agg #[.int .i64 a, .int .i64 b]) = some l := by
 have key : ∀ d, Try.prog.keyLits (d + 2) 120 [.int .i64 a, .int .i64 b] = some [.int .i64 a, .int .i64 b] := by
  intro d
  have hc : Try.prog.cellsOf 120 = 2 := by kernel_rfl
  have hc3 : Try.prog.cellsOf 3 = 1 := by kernel_rfl
  simp [Program.keyLits, Try.underlying120, Try.underlying3, hc, hc3, ha, hb]
 have hf : Value.formed Try.prog 120 (.agg #[.int .i64 a, .int .i64 b]) = true := by
  have hc : Try.prog.cellsOf 120 = 2 := by kernel_rfl
  simp [Value.formed, Try.underlying120, hc]
 have hk : Try.prog.keyType 120 = true := by kernel_rfl
 have h1 : 1 ≤ Try.prog.types.size := by decide +kernel
 obtain ⟨n, hn⟩ : ∃ n, Try.prog.types.size + 1 = n + 2 := ⟨Try.prog.types.size - 1, by omega⟩
 refine ⟨.string (keyBytes [.int .i64 a, .int .i64 b]), ?_⟩
 unfold keyOf
 rw [Try.underlying120]
 simp only [hk, hf, Bool.and_self, if_true]
 rw [hn]
 show Option.map _ (Try.prog.keyLits (n + 2) 120 [.int .i64 a, .int .i64 b]) = _
 rw [key n]; rfl
def SetP (w : World) (b m : Nat) (S : Int → Int → Bool) : Prop := ∃ D : DataW Value, w.ownsMap Try.prog 120 heldE b m D ∧ Maps.size D = m ∧ ∀ x y l, keyOf Try.prog 120 (.agg #[.int .i64 x, .int .i64 y]) = some l → Maps.has D l = S x y
theorem SetP.lt {w : World} {b m : Nat} {S : Int → Int → Bool} (h : SetP w b m S) : b < w.heap.size := by
 obtain ⟨D, h1, _⟩ := h
 exact h1.lt
theorem SetP.blk {w w' : World} {b m : Nat} {S : Int → Int → Bool} (h : SetP w b m S) (hk : w'.heap[b]? = w.heap[b]?) : SetP w' b m S := by
 obtain ⟨D, ⟨es, clock, hb, rest⟩, h2⟩ := h
 exact ⟨D, ⟨es, clock, hk.trans hb, rest⟩, h2⟩
theorem SetP.up {w w' : World} {b m : Nat} {S : Int → Int → Bool} (h : SetP w b m S) (hb : Below w.heap.size w w') : SetP w' b m S := h.blk (hb.block b h.lt)
theorem SetP.made (w : World) : SetP (w.alloc (.map #[] 0)) w.heap.size 0 (fun _ _ => false) :=
 ⟨.map [], World.ownsMap_made _ _ _ _, rfl, fun _ _ _ _ => rfl⟩
theorem wpList_setp_put {w : World} {ops : Array Oper} {rest : List Oper} {o : Oper} {a : Act} {Q : Exit → Act → World → Prop} (hg : o.guard = none) (m x y : Operand) (t e : TypeId) (hop : o.op = Op.mapUpdate t m x y)
  (ht : Try.prog.underlying t = some (.map 120 e))
  (b n : Nat) (S : Int → Int → Bool) (hm : a.eval m = .map (some b)) (hs : SetP w b n S) (c d : Int) (hx : a.eval x = .agg #[.int .i64 c, .int .i64 d]) (v : Value) (hy : a.eval y = v) (hw : (Lit.int .i64 c).wf = true) (hw2 : (Lit.int .i64 d).wf = true) (hn : n ≤ 1000000)
  (hK : ∀ w', Hid (SetP w' b (if S c d = true then n else n + 1) (fun x y => decide (x = c ∧ y = d) || S x y)) → Hid (w.grownBy w' (some b)) → wpList Try.prog ops Q rest (a.put o.dst undef) w') : wpList Try.prog ops Q (o :: rest) a w := by
 obtain ⟨D, h1, hsz, h3⟩ := hs
 have h2 := h1.isMap
 have ht2 := h1.tidy ts_keyed
 obtain ⟨l, hl⟩ := start_key hw hw2
 refine wpList_mapUpdate_own w hg m x y t hop 120 e ts_keyed ht heldE b n D hm h1 (by unfold maxLen; omega) _ _ _ hx hy hl (.held v) [] rfl ?_
 intro w' h4 h5
 have hsz2 : Maps.size (D.put l (.held v)) = if S c d = true then n else n + 1 := by
  rw [size_put ht2, h3 c d l hl, hsz]
 refine hK w' (Lib.hid ⟨_, ?_, hsz2, fun x y l2 hl2 => ?_⟩) (Lib.hid h5)
 ·obtain ⟨es, clock, hb, F, hes, hD⟩ := h4
  refine ⟨es, clock, hb, F, ?_, hD⟩
  have : es.size = Maps.size (D.put l (.held v)) := by rw [hD, size_eq, length_sorted]; simp
  omega
 ·by_cases hxc : x = c ∧ y = d
  ·obtain ⟨rfl, rfl⟩ := hxc
   rw [hl] at hl2
   obtain rfl := Option.some.inj hl2
   rw [has_put_same h2 (ts_keyed.key hl)]
   simp
  ·have hne : l2 ≠ l := by
    rintro rfl
    have := ts_keyed.inj hl2 hl
    simp at this
    exact hxc this
   rw [has_put_other hne, h3 x y l2 hl2]
   show S x y = (decide (x = c ∧ y = d) || S x y)
   rw [decide_eq_false hxc]; rfl
open Go.RowKit Go.Maps
set_option maxRecDepth 20000 in
set_option maxHeartbeats 3200000 in
theorem clnk_any (l : Lnk) (A C : Option Addr) (cp d : Nat) (L c : List Acc) (w : World) (hz : AccAt w A L) (hy : AccAt w C c) (hl : L.length ≤ 1000) (hm : c.length ≤ 1000) :
  Calls Try.prog 77 #[lnkV l, .slice A L.length cp, .slice C c.length d] w fun e w' => e = .returned (.bool (lnkB L c l)) ∧ Below w.heap.size w w' := by
 have hB := below_alloc_new (w := w) (.cells #[.int .i64 l.frm, .int .i64 l.tgt, .int .i64 l.since] 80)
 have HL := Lib.hid (lb_new w 80 l)
 have HZ := Lib.hid (hz.up hB)
 have HY := Lib.hid (hy.up hB)
 have hf := fun w h => cfind_any A cp L l.frm w h hl
 have hg := fun w h => cfind_any C d c l.tgt w h hm
 have hv := fun w => vd_any l.since w
 have hE : lnkB L c l = ((fnd L l.frm).isSome && ((fnd c l.tgt).isSome && (decide ((fndA L l.frm).kind = (fndA c l.tgt).kind) && vdB l.since))) := rfl
 generalize lnkB L c l = r at *
 generalize (fnd L l.frm).isSome = q1 at *
 generalize (fnd c l.tgt).isSome = q2 at *
 generalize fndA L l.frm = fa at *
 generalize fndA c l.tgt = fb at *
 generalize vdB l.since = q4 at *
 obtain ⟨q3, hq3⟩ : ∃ q3, decide (fa.kind = fb.kind) = q3 := ⟨_, rfl⟩
 have e3 : (fa.kind == fb.kind) = q3 := by rw [← hq3, Bool.eq_iff_iff]; simp
 rw [hq3] at hE
 generalize L.length = n at *
 generalize c.length = m at *
 obtain ⟨⟨v0, v1, v2⟩, vlt⟩ := HL.out
 simp only [Nat.zero_add] at v1 v2
 have HF := Lib.hid hf
 have HG := Lib.hid hg
 have HV := Lib.hid hv
 have HE := Lib.hid hE
 clear hf hg hv hE hq3 hz hy
 cases q1 <;> cases q2 <;> cases q3
 all_goals
  go_enter Try.func77, Try.ntmps77
  go_wp2_with (first
   | (go_at_call 66; first
    | ((with_reducible refine (HF.out _ HZ.out).mono ?_); rintro e w2 ⟨rfl, hb⟩; have HA := Lib.hid (ab_new w2 71 fa); replace HL := Lib.hid ((HL.out.up hb).up (below_alloc_new (.cells #[.int .i64 fa.code, .int .i64 fa.kind, .int .i64 fa.basis, .int .i64 fa.par] 71))); replace HY := Lib.hid ((HY.out.up hb).up (below_alloc_new (.cells #[.int .i64 fa.code, .int .i64 fa.kind, .int .i64 fa.basis, .int .i64 fa.par] 71))); replace hB := below_new (below_more hB hb) (.cells #[.int .i64 fa.code, .int .i64 fa.kind, .int .i64 fa.basis, .int .i64 fa.par] 71); clear hb v0 v1 v2 vlt; obtain ⟨⟨v0, v1, v2⟩, vlt⟩ := HL.out; simp only [Nat.zero_add] at v1 v2)
    | ((with_reducible refine (HG.out _ HY.out).mono ?_); rintro e w3 ⟨rfl, hb⟩; have HA3 := Lib.hid (ab_new w3 71 fb); replace HA := Lib.hid ((HA.out.up hb).up (below_alloc_new (.cells #[.int .i64 fb.code, .int .i64 fb.kind, .int .i64 fb.basis, .int .i64 fb.par] 71))); replace HL := Lib.hid ((HL.out.up hb).up (below_alloc_new (.cells #[.int .i64 fb.code, .int .i64 fb.kind, .int .i64 fb.basis, .int .i64 fb.par] 71))); replace hB := below_new (below_more hB hb) (.cells #[.int .i64 fb.code, .int .i64 fb.kind, .int .i64 fb.basis, .int .i64 fb.par] 71); clear hb v0 v1 v2 vlt; obtain ⟨⟨v0, v1, v2⟩, vlt⟩ := HL.out; simp only [Nat.zero_add] at v1 v2; obtain ⟨⟨x0, x1, x2, x3⟩, xlt, -⟩ := HA.out; obtain ⟨⟨y0, y1, y2, y3⟩, ylt, -⟩ := HA3.out; simp only [Nat.zero_add] at x1 x2 x3 y1 y2 y3))
   | (go_at_call 83; refine (HV.out _).mono ?_; rintro e w4 ⟨rfl, rfl⟩))
  go_ret
  exact ⟨by rw [HE.out]; rfl, hB⟩
theorem wpList_setp_len {w : World} {ops : Array Oper} {rest : List Oper} {o : Oper} {a : Act} {Q : Exit → Act → World → Prop} (hg : o.guard = none) (m : Operand) (t e : TypeId) (hop : o.op = Op.call { callee := Callee.builtin Builtin.len, args := #[m], argTypes := #[t] })
  (ht : Try.prog.underlying t = some (.map 120 e)) (b n : Nat) (S : Int → Int → Bool) (hm : a.eval m = .map (some b)) (hs : SetP w b n S)
  (hK : wpList Try.prog ops Q rest (a.put o.dst (.int .i64 (n : Int))) w) : wpList Try.prog ops Q (o :: rest) a w := by
 obtain ⟨D, h1, hsz, h3⟩ := hs
 refine wpList_len_own w hg m t hop 120 e ht heldE b n D hm h1 ?_
 rw [hsz]; exact hK
structure DI (K : List Lnk) (k m : Nat) (S : Int → Int → Bool) : Prop where
 mem : ∀ x y, S x y = true ↔ ∃ i, i < k ∧ (K.getD i lnk0).frm = x ∧ (K.getD i lnk0).since = y
 le : m ≤ k
 iff : m = k ↔ allTo (dfB K) k = true
theorem DI.start {K : List Lnk} : DI K 0 0 (fun _ _ => false) := ⟨fun x y => by simp, Nat.le_refl _, by simp [allTo]⟩
theorem dfB_is {K : List Lnk} {i : Nat} : dfB K i = true ↔ ∀ k, k < i → ¬ ((K.getD k lnk0).frm = (K.getD i lnk0).frm ∧ (K.getD k lnk0).since = (K.getD i lnk0).since) := by
 unfold dfB
 rw [allTo_is]
 have e : ∀ k, (!smB K i k) = true ↔ ¬ ((K.getD k lnk0).frm = (K.getD i lnk0).frm ∧ (K.getD k lnk0).since = (K.getD i lnk0).since) := by
  intro k
  unfold smB
  rw [Bool.not_eq_true', Bool.and_eq_false_iff, decide_eq_false_iff_not, decide_eq_false_iff_not]
  exact ⟨fun h h2 => h.elim (fun h3 => h3 h2.1) (fun h3 => h3 h2.2), fun h => by
   by_cases h1 : (K.getD k lnk0).frm = (K.getD i lnk0).frm
   ·exact .inr fun h2 => h ⟨h1, h2⟩
   ·exact .inl h1⟩
 exact ⟨fun h k hk => (e k).1 (h k hk), fun h k hk => (e k).2 (h k hk)⟩
theorem DI.step {K : List Lnk} {k m : Nat} {S : Int → Int → Bool} {x : Lnk} (h : DI K k m S) (hx : K.getD k lnk0 = x) :
  DI K (k + 1) (if S x.frm x.since = true then m else m + 1) (fun a b => decide (a = x.frm ∧ b = x.since) || S a b) := by
 have hd : dfB K k = !S x.frm x.since := by
  cases hS : S x.frm x.since with
  | true =>
   obtain ⟨i, hi, h1, h2⟩ := (h.mem _ _).1 hS
   cases hq : dfB K k with
   | false => rfl
   | true => exact absurd ⟨by rw [hx]; exact h1, by rw [hx]; exact h2⟩ (dfB_is.1 hq i hi)
  | false =>
   show dfB K k = true
   rw [dfB_is]
   rintro i hi ⟨h1, h2⟩
   have := (h.mem x.frm x.since).2 ⟨i, hi, by rw [h1, hx], by rw [h2, hx]⟩
   rw [hS] at this; cases this
 refine ⟨fun a b => ?_, ?_, ?_⟩
 ·simp only [Bool.or_eq_true, decide_eq_true_eq, h.mem]
  constructor
  ·rintro (⟨rfl, rfl⟩ | ⟨i, hi, h1, h2⟩)
   ·exact ⟨k, by omega, by rw [hx], by rw [hx]⟩
   ·exact ⟨i, by omega, h1, h2⟩
  ·rintro ⟨i, hi, h1, h2⟩
   rcases Nat.lt_or_ge i k with h3 | h3
   ·exact .inr ⟨i, h3, h1, h2⟩
   ·obtain rfl : i = k := by omega
    rw [hx] at h1 h2
    exact .inl ⟨h1.symm, h2.symm⟩
 ·have := h.le; split <;> omega
 ·have h1 := h.le
  have h2 := h.iff
  simp only [allTo, Bool.and_eq_true, hd]
  cases hS : S x.frm x.since
  ·simp only [Bool.not_false, and_true, if_neg (show ¬ (false = true) by simp)]
   rw [← h2]; omega
  ·simp only [Bool.not_true, if_true]
   constructor
   ·intro h3; omega
   ·rintro ⟨_, h3⟩; cases h3
structure WfL (l : Lnk) : Prop where
 frm : (Lit.int .i64 l.frm).wf = true
 tgt : (Lit.int .i64 l.tgt).wf = true
 since : (Lit.int .i64 l.since).wf = true
set_option maxRecDepth 20000 in
set_option maxHeartbeats 3200000 in
theorem cdist_any (A : Option Addr) (cp : Nat) (K : List Lnk) (w : World) (hz : LnkAt w A K) (hl : K.length ≤ 1000) (hw : ∀ l ∈ K, WfL l) :
  Calls Try.prog 78 #[.slice A K.length cp] w fun e w' => e = .returned (.bool (allTo (dfB K) K.length)) ∧ Below w.heap.size w w' := by
 have hB := below_alloc_new (w := w) (.map #[] 0)
 have hM := SetP.made w
 obtain ⟨q, hq⟩ : ∃ q, allTo (dfB K) K.length = q := ⟨_, rfl⟩
 rw [hq]
 obtain ⟨n, hn⟩ : ∃ n, K.length = n := ⟨_, rfl⟩
 obtain ⟨s0, hs0⟩ : ∃ s0, w.heap.size = s0 := ⟨_, rfl⟩
 rw [hn] at hl hq ⊢
 rw [hs0] at hB hM ⊢
 have HN := Lib.hid hn
 have HZ := Lib.hid hz
 have HW := Lib.hid hw
 have HS0 := Lib.hid hs0
 have HM := Lib.hid hM
 have HQ := Lib.hid hq
 have hmm := @run_makeMap Try.prog
 clear hn hz hw hM hq
 go_enter Try.func78, Try.ntmps78
 go_wp2_with fail
 clear hs0
 go_loopg [9] n (fun kx s9 wr => ∃ (k m : Nat) (S : Int → Int → Bool), s9 = .int .i64 k ∧ k ≤ n ∧ n - k ≤ kx ∧ Hid (DI K k m S) ∧ Hid (SetP wr s0 m S) ∧ Below s0 w wr)
 case atStart => exact ⟨0, 0, _, rfl, by omega, by omega, Lib.hid DI.start, HM, hB⟩
 case round =>
  clear hB HM
  obtain ⟨k, m, S, rfl, hk, hkx, HD, HM, hB⟩ := hrel
  by_cases hlt : k < n
  ·have hltz : (k : Int) < (n : Int) := by omega
   have hsz : s0 ≤ wr.heap.size := by have := hB.size; have := HS0.out; omega
   obtain ⟨b, off, rfl, hbw, hcs⟩ := HZ.out (by rw [HN.out]; omega)
   obtain ⟨c0, c1, c2⟩ := (hcs k (by rw [HN.out]; exact hlt)).up hB (by have := HS0.out; omega)
   obtain ⟨x, hx⟩ : ∃ x, K.getD k lnk0 = x := ⟨_, rfl⟩
   rw [hx] at c0 c1 c2
   have HWX := Lib.hid (HW.out x (by rw [← hx]; exact getD_mem_acc (by rw [HN.out]; exact hlt)))
   have HDS := Lib.hid (HD.out.step hx)
   have hm1 : m ≤ 1000 := by have := HD.out.le; omega
   have HM1 := Lib.hid (HM.out.up (below_alloc_new (.cells #[.int .i64 x.frm, .int .i64 x.tgt, .int .i64 x.since] 80)))
   have hB1 : Below s0 w (wr.alloc (.cells #[.int .i64 x.frm, .int .i64 x.tgt, .int .i64 x.since] 80)) := hB.alloc hsz _
   have hsm := HM.out.lt
   clear hx hcs
   go_wp2_with (at_mapUpdate; refine wpList_setp_put rfl _ _ _ _ 4 rfl Try.underlying118 s0 m S rfl HM1.out x.frm x.since rfl _ rfl HWX.out.frm HWX.out.since (by omega) ?_; intro w2 hm2 hg2; have hb2 := grown_below hB1 hg2.out (Nat.le_refl _) (by simp; omega); clear hg2)
   go_roundg (n - (k + 1))
   case measure => omega
   case rel => exact ⟨k + 1, _, _, by go_num, by omega, by omega, HDS, hm2, hb2⟩
  ·obtain rfl : k = n := by omega
   have hltz : ¬ (k : Int) < (k : Int) := by omega
   have e9 : ((m : Int) == (k : Int)) = q := by
    rw [← HQ.out]
    have h1 := HD.out.iff
    cases h2 : allTo (dfB K) k with
    | true => rw [h2] at h1; have := h1.2 rfl; subst this; simp
    | false => rw [h2] at h1; simp; intro h3; have := h1.1 (by omega); cases this
   go_wp2_with (at_len; refine wpList_setp_len rfl _ _ 4 rfl Try.underlying118 s0 m S rfl HM.out ?_)
   go_ret
   exact ⟨rfl, hB⟩
def WfC (L : List Acc) : Prop := ∀ a ∈ L, (Lit.int .i64 a.code).wf = true
section
variable {w wb w2 w4 : World} {base mb : Nat} {GA GB : Int → Value} {L : List Acc} {K : List Lnk} {v : Value}
end
open Go.ChangeShapes Go.WideShapes Go.ChangeAt Go.WideMaps Go.WideElems Go.RowKit Go.Deep Go.Joins
section
variable {H : Type} {enc : TypeId × Value → H} {P : Program} {W : World}
theorem open_wrows {T E I : TypeId} {fs : Array Field} {fuel : Nat} {cs : List Value} {x : DataW H × List MemPlace} (hT : P.underlying T = some (.slice E)) (hE : P.underlying E = some (.struct fs))
  (hone : oneCellFields P fs = true) (hC : P.cellsOf E = fs.size) (hty : (fs.toList.all fun f => f.type == I) = true) (hI : P.underlying I = some (.int .i64)) (hn : 0 < fs.size)
  (hf : DataW.trod enc P W 0 (fun _ => true) true fuel T cs = some x) :
  ∃ A len cap, cs = [.slice A len cap] ∧ len ≤ 9223372036854775807 ∧ ∃ X : Nat → Nat → Int, 0 < len → ∃ b off, A = some ⟨b, off, none⟩ ∧ b < W.heap.size ∧ ∀ k, k < len → ∀ j, j < fs.size → W.cell? ⟨b, off + (k * fs.size + j), none⟩ = some (.int .i64 (X k j)) ∧ (Lit.int .i64 (X k j)).wf = true := by
 rcases open_slice hT hf with ⟨hcs, -⟩ | ⟨a, len, cap, m, n, D, Pl, hcs, -, hl, hm, hmm, -, hx⟩
 ·exact ⟨none, 0, 0, hcs, by omega, fun _ _ => 0, fun h => by omega⟩
 ·simp only [if_true] at hmm
  subst hmm
  unfold maxLen at hm
  have key : ∀ k, k < len → ∀ j, j < fs.size → ∃ z : Int, W.cell? (a.add (k * fs.size + j)) = some (.int .i64 z) ∧ (Lit.int .i64 z).wf = true := by
   intro k hk j hj
   obtain ⟨cs', h1, h2⟩ := hx k (by omega)
   rw [hC] at h1
   obtain ⟨_, hlen, hcell⟩ := World.cells?_some h1
   obtain ⟨xs, n', -, -, -, hxl, hff⟩ := DataW.trod_struct hE h2
   have hfj : fs[j]? = some fs[j] := Array.getElem?_eq_getElem hj
   obtain ⟨ho, hk1⟩ := hone_of hone j _ hfj
   have ht : fs[j].type = I := by
    have := List.all_eq_true.1 hty fs[j] (by simp)
    simpa using this
   have hxj : xs[j]? = some (xs[j]'(by omega)) := List.getElem?_eq_getElem (by omega)
   have h3 := hff j _ hfj
   rw [ho, hk1, ht, hxj] at h3
   obtain ⟨z, hz, -, hw⟩ := DataW.trod_int hI h3
   refine ⟨z, ?_, hw⟩
   have h4 := hcell j hj
   rw [add_add] at h4
   rw [h4]
   have h5 : (cs'.drop j).take 1 = [cs'[j]'(by omega)] := by
    rw [List.drop_eq_getElem_cons (by omega)]; rfl
   rw [h5] at hz
   rw [List.getElem?_eq_getElem (by omega)]
   injection hz with hz
   rw [hz]
  obtain ⟨b, off, spot⟩ := a
  refine ⟨_, len, _, hcs, by omega, fun k j => cellNum (W.cell? (Addr.add ⟨b, off, spot⟩ (k * fs.size + j))), fun h0 => ?_⟩
  obtain ⟨z0, hz0, -⟩ := key 0 h0 0 hn
  have hspot : spot = none := by simpa [Addr.add] using World.cell?_spot hz0
  subst hspot
  have hlt : b < W.heap.size := by
   rcases Nat.lt_or_ge b W.heap.size with hlt | hge
   ·exact hlt
   ·unfold World.cell? at hz0
    rw [show (Addr.add ⟨b, off, none⟩ (0 * fs.size + 0)).block = b from by rw [block_add], Array.getElem?_eq_none hge] at hz0
    simp at hz0
  refine ⟨b, off, rfl, hlt, fun k hk j hj => ?_⟩
  obtain ⟨z, hz, hw⟩ := key k hk j hj
  dsimp only
  rw [hz]
  rw [Go.WideShapes.add_plain] at hz
  exact ⟨hz, hw⟩
theorem open_waccs {T E I : TypeId} {f0 f1 f2 f3 : Field} {fuel : Nat} {cs : List Value} {x : DataW H × List MemPlace} (hT : P.underlying T = some (.slice E)) (hE : P.underlying E = some (.struct #[f0, f1, f2, f3]))
  (hone : oneCellFields P #[f0, f1, f2, f3] = true) (hC : P.cellsOf E = 4) (hty : ([f0, f1, f2, f3].all fun f => f.type == I) = true) (hI : P.underlying I = some (.int .i64))
  (hf : DataW.trod enc P W 0 (fun _ => true) true fuel T cs = some x) :
  ∃ A len cap L, cs = [.slice A len cap] ∧ L.length = len ∧ len ≤ 9223372036854775807 ∧ AccAt W A L ∧ WfC L := by
 obtain ⟨A, len, cap, rfl, hmax, X, hX⟩ := open_wrows hT hE hone hC hty hI (by simp) hf
 have hg : ∀ i, i < len → ((List.range len).map fun k => (⟨X k 0, X k 1, X k 2, X k 3⟩ : Acc)).getD i acc0 = ⟨X i 0, X i 1, X i 2, X i 3⟩ := fun i hi2 => by
  rw [List.getD_eq_getElem?_getD, List.getElem?_map, List.getElem?_range hi2]; rfl
 refine ⟨A, len, cap, (List.range len).map fun k => ⟨X k 0, X k 1, X k 2, X k 3⟩, rfl, by simp, hmax, fun h0 => ?_, fun a ha => ?_⟩
 ·obtain ⟨b, off, e, hlt, hc⟩ := hX (by simpa using h0)
  refine ⟨b, off, e, hlt, fun i hi => ?_⟩
  have hi2 : i < len := by simpa using hi
  rw [hg i hi2]
  exact ⟨(hc i hi2 0 (by simp)).1, (hc i hi2 1 (by simp)).1, (hc i hi2 2 (by simp)).1, (hc i hi2 3 (by simp)).1⟩
 ·obtain ⟨k, hk, rfl⟩ := List.mem_map.1 ha
  have hk2 : k < len := by simpa using hk
  obtain ⟨b, off, e, hlt, hc⟩ := hX (by omega)
  exact (hc k hk2 0 (by simp)).2
theorem open_wlnks {T E I : TypeId} {f0 f1 f2 : Field} {fuel : Nat} {cs : List Value} {x : DataW H × List MemPlace} (hT : P.underlying T = some (.slice E)) (hE : P.underlying E = some (.struct #[f0, f1, f2]))
  (hone : oneCellFields P #[f0, f1, f2] = true) (hC : P.cellsOf E = 3) (hty : ([f0, f1, f2].all fun f => f.type == I) = true) (hI : P.underlying I = some (.int .i64))
  (hf : DataW.trod enc P W 0 (fun _ => true) true fuel T cs = some x) :
  ∃ A len cap K, cs = [.slice A len cap] ∧ K.length = len ∧ len ≤ 9223372036854775807 ∧ LnkAt W A K ∧ ∀ l ∈ K, WfL l := by
 obtain ⟨A, len, cap, rfl, hmax, X, hX⟩ := open_wrows hT hE hone hC hty hI (by simp) hf
 have hg : ∀ i, i < len → ((List.range len).map fun k => (⟨X k 0, X k 1, X k 2⟩ : Lnk)).getD i lnk0 = ⟨X i 0, X i 1, X i 2⟩ := fun i hi2 => by
  rw [List.getD_eq_getElem?_getD, List.getElem?_map, List.getElem?_range hi2]; rfl
 refine ⟨A, len, cap, (List.range len).map fun k => ⟨X k 0, X k 1, X k 2⟩, rfl, by simp, hmax, fun h0 => ?_, fun a ha => ?_⟩
 ·obtain ⟨b, off, e, hlt, hc⟩ := hX (by simpa using h0)
  refine ⟨b, off, e, hlt, fun i hi => ?_⟩
  have hi2 : i < len := by simpa using hi
  rw [hg i hi2]
  exact ⟨(hc i hi2 0 (by simp)).1, (hc i hi2 1 (by simp)).1, (hc i hi2 2 (by simp)).1⟩
 ·obtain ⟨k, hk, rfl⟩ := List.mem_map.1 ha
  have hk2 : k < len := by simpa using hk
  obtain ⟨b, off, e, hlt, hc⟩ := hX (by omega)
  exact ⟨(hc k hk2 0 (by simp)).2, (hc k hk2 1 (by simp)).2, (hc k hk2 2 (by simp)).2⟩
structure EntK (W : World) (A : Option Addr) (n : Nat) (L : List Acc) (B : Option Addr) (m : Nat) (K : List Lnk) : Prop where
 ln : L.length = n
 lm : K.length = m
 hz : AccAt W A L
 hy : LnkAt W B K
 wa : WfC L
 wl : ∀ l ∈ K, WfL l
end
theorem cells5 {cs : List Value} (h : cs.length = 5) : ∃ c0 c1 c2 c3 c4, cs = [c0, c1, c2, c3, c4] := by
 match cs, h with
 | [c0, c1, c2, c3, c4], _ => exact ⟨c0, c1, c2, c3, c4, rfl⟩
section
variable {H : Type} {enc : TypeId × Value → H} {W : World}
set_option maxRecDepth 100000 in
theorem open_entC {fuel : Nat} {cs : List Value} {x : DataW H × List MemPlace} (hf : DataW.trod enc Try.prog W 0 (fun _ => true) true fuel 50 cs = some x) :
  ∃ nm cur A n c L B m d K jt, cs = [.string nm, .string cur, .slice A n c, .slice B m d, .bool jt] ∧ EntK W A n L B m K ∧ nm.size ≤ maxLen ∧ cur.size ≤ maxLen := by
 obtain ⟨xs, n', -, -, hlen, hxl, hff⟩ := DataW.trod_struct Try.underlying50 hf
 have hC : Try.prog.cellsOf 50 = 5 := by kernel_rfl
 rw [hC] at hlen
 obtain ⟨c0, c1, c2, c3, c4, rfl⟩ := cells5 hlen
 have k9 : Try.prog.cellsOf 9 = 1 := by kernel_rfl
 have k22 : Try.prog.cellsOf 24 = 1 := by kernel_rfl
 have k23 : Try.prog.cellsOf 48 = 1 := by kernel_rfl
 have k4 : Try.prog.cellsOf 4 = 1 := by kernel_rfl
 have hxl' : xs.length = 5 := hxl
 have hget : ∀ i, i < 5 → ∃ y, xs[i]? = some y := fun i hi => ⟨_, List.getElem?_eq_getElem (by omega)⟩
 have h0 : DataW.trod enc Try.prog W 0 (fun _ => true) true n' 9 (([c0, c1, c2, c3, c4].drop 0).take (Try.prog.cellsOf 9)) = xs[0]? := hff 0 _ rfl
 have h1 : DataW.trod enc Try.prog W 0 (fun _ => true) true n' 9 (([c0, c1, c2, c3, c4].drop 1).take (Try.prog.cellsOf 9)) = xs[1]? := hff 1 _ rfl
 have h2 : DataW.trod enc Try.prog W 0 (fun _ => true) true n' 24 (([c0, c1, c2, c3, c4].drop 2).take (Try.prog.cellsOf 24)) = xs[2]? := hff 2 _ rfl
 have h3 : DataW.trod enc Try.prog W 0 (fun _ => true) true n' 48 (([c0, c1, c2, c3, c4].drop 3).take (Try.prog.cellsOf 48)) = xs[3]? := hff 3 _ rfl
 have h4 : DataW.trod enc Try.prog W 0 (fun _ => true) true n' 4 (([c0, c1, c2, c3, c4].drop 4).take (Try.prog.cellsOf 4)) = xs[4]? := hff 4 _ rfl
 obtain ⟨y0, e0⟩ := hget 0 (by omega)
 obtain ⟨y1, e1⟩ := hget 1 (by omega)
 obtain ⟨y2, e2⟩ := hget 2 (by omega)
 obtain ⟨y3, e3⟩ := hget 3 (by omega)
 obtain ⟨y4, e4⟩ := hget 4 (by omega)
 rw [e0] at h0
 rw [e1] at h1
 rw [e2] at h2
 rw [e3] at h3
 rw [e4] at h4
 rw [k9] at h0 h1
 rw [k22] at h2
 rw [k23] at h3
 rw [k4] at h4
 obtain ⟨nm, q0, -, b0⟩ := DataW.trod_string Try.underlying9 h0
 obtain ⟨cur, q1, -, b1⟩ := DataW.trod_string Try.underlying9 h1
 obtain ⟨A, n, c, L, q2, ln, -, hz, wa⟩ := open_waccs Try.underlying24 Try.underlying71 (by kernel_rfl) (by kernel_rfl) (by kernel_rfl) Try.underlying3 h2
 obtain ⟨B, m, d, K, q3, lm, -, hy, wl⟩ := open_wlnks Try.underlying48 Try.underlying80 (by kernel_rfl) (by kernel_rfl) (by kernel_rfl) Try.underlying3 h3
 obtain ⟨jt, q4, -⟩ := DataW.trod_bool Try.underlying4 h4
 simp at q0 q1 q2 q3 q4
 subst q0 q1 q2 q3 q4
 exact ⟨nm, cur, A, n, c, L, B, m, d, K, jt, rfl, ⟨ln, lm, hz, hy, wa, wl⟩, b0, b1⟩
end
open Go.ChangeShapes Go.WideShapes Go.ChangeAt Go.WideMaps Go.WideElems Go.RowKit Go.Deep Go.Joins
structure Ent where
 nm : ByteArray
 cur : ByteArray
 A : Option Addr
 n : Nat
 c : Nat
 B : Option Addr
 m : Nat
 d : Nat
 jt : Bool
 L : List Acc
 K : List Lnk
abbrev ent0 : Ent := ⟨⟨#[]⟩, ⟨#[]⟩, none, 0, 0, none, 0, 0, false, [], []⟩
structure E5 (w : World) (b o : Nat) (e : Ent) : Prop where
 c0 : w.cell? ⟨b, o, none⟩ = some (.string e.nm)
 c1 : w.cell? ⟨b, o + 1, none⟩ = some (.string e.cur)
 c2 : w.cell? ⟨b, o + 2, none⟩ = some (.slice e.A e.n e.c)
 c3 : w.cell? ⟨b, o + 3, none⟩ = some (.slice e.B e.m e.d)
 c4 : w.cell? ⟨b, o + 4, none⟩ = some (.bool e.jt)
def EntsAt (w : World) (X : Option Addr) (G : List Ent) : Prop := 0 < G.length → ∃ b off, X = some ⟨b, off, none⟩ ∧ b < w.heap.size ∧ ∀ i, i < G.length → E5 w b (off + i * 5) (G.getD i ent0)
def EntsK (w : World) (G : List Ent) : Prop := ∀ e ∈ G, EntK w e.A e.n e.L e.B e.m e.K
section
variable {w w' : World} {b o Bs : Nat} {e : Ent} {X : Option Addr} {G : List Ent}
theorem E5.up (h : E5 w b o e) (hb : Below Bs w w') (hlt : b < Bs) : E5 w' b o e :=
 ⟨(hb.cell (p := ⟨b, o, none⟩) hlt).trans h.c0, (hb.cell (p := ⟨b, o + 1, none⟩) hlt).trans h.c1, (hb.cell (p := ⟨b, o + 2, none⟩) hlt).trans h.c2, (hb.cell (p := ⟨b, o + 3, none⟩) hlt).trans h.c3, (hb.cell (p := ⟨b, o + 4, none⟩) hlt).trans h.c4⟩
theorem EntsAt.up (h : EntsAt w X G) (hb : Below w.heap.size w w') : EntsAt w' X G := fun h0 => by
 obtain ⟨b, off, e, hlt, hc⟩ := h h0
 exact ⟨b, off, e, Nat.lt_of_lt_of_le hlt hb.size, fun i hi => (hc i hi).up hb hlt⟩
theorem EntsAt.nil : EntsAt w X [] := fun h => absurd h (by simp)
theorem EntK.up {A B : Option Addr} {n m : Nat} {L : List Acc} {K : List Lnk} (h : EntK w A n L B m K) (hb : Below w.heap.size w w') : EntK w' A n L B m K := ⟨h.ln, h.lm, h.hz.up hb, h.hy.up hb, h.wa, h.wl⟩
theorem EntsK.up (h : EntsK w G) (hb : Below w.heap.size w w') : EntsK w' G := fun e he => (h e he).up hb
end
section
variable {H : Type} {enc : TypeId × Value → H} {W : World}
set_option maxRecDepth 100000 in
theorem open_entsC {T : TypeId} {fuel : Nat} {cs : List Value} {x : DataW H × List MemPlace} (hT : Try.prog.underlying T = some (.slice 50)) (hf : DataW.trod enc Try.prog W 0 (fun _ => true) true fuel T cs = some x) :
  ∃ X len cap G, cs = [.slice X len cap] ∧ G.length = len ∧ len ≤ 9223372036854775807 ∧ EntsAt W X G ∧ EntsK W G ∧ ∀ e ∈ G, e.nm.size ≤ maxLen ∧ e.cur.size ≤ maxLen := by
 rcases open_slice hT hf with ⟨hcs, -⟩ | ⟨a, len, cap, m, n, D, Pl, hcs, -, hl, hm, hmm, -, hx⟩
 ·exact ⟨none, 0, 0, [], hcs, rfl, by omega, EntsAt.nil, fun e he => (by cases he), fun e he => (by cases he)⟩
 ·simp only [if_true] at hmm
  subst hmm
  unfold maxLen at hm
  have hC : Try.prog.cellsOf 50 = 5 := by kernel_rfl
  rw [hC] at hx
  have key : ∀ k, ∃ e : Ent, k < len → W.cell? (a.add (k * 5)) = some (.string e.nm) ∧ W.cell? (a.add (k * 5 + 1)) = some (.string e.cur) ∧ W.cell? (a.add (k * 5 + 2)) = some (.slice e.A e.n e.c) ∧ W.cell? (a.add (k * 5 + 3)) = some (.slice e.B e.m e.d) ∧ W.cell? (a.add (k * 5 + 4)) = some (.bool e.jt) ∧ EntK W e.A e.n e.L e.B e.m e.K ∧ e.nm.size ≤ maxLen ∧ e.cur.size ≤ maxLen := by
   intro k
   by_cases hk : k < len
   ·obtain ⟨cs', h1, h2⟩ := hx k (by omega)
    obtain ⟨_, hlen, hcell⟩ := World.cells?_some h1
    obtain ⟨nm, cur, A, n', c, L, B, m', d, K, jt, rfl, hK, b1, b2⟩ := open_entC h2
    refine ⟨⟨nm, cur, A, n', c, B, m', d, jt, L, K⟩, fun _ => ?_⟩
    have g0 := hcell 0 (by simp)
    have g1 := hcell 1 (by simp)
    have g2 := hcell 2 (by simp)
    have g3 := hcell 3 (by simp)
    have g4 := hcell 4 (by simp)
    rw [add_add] at g0 g1 g2 g3 g4
    exact ⟨g0, g1, g2, g3, g4, hK, b1, b2⟩
   ·exact ⟨ent0, fun h => absurd h hk⟩
  obtain ⟨F, hF⟩ := Classical.axiomOfChoice key
  obtain ⟨b, off, spot⟩ := a
  refine ⟨_, len, _, (List.range len).map F, hcs, by simp, by omega, fun h0 => ?_, fun e he => ?_, fun e he => ?_⟩
  ·have hl0 : 0 < len := by simpa using h0
   have hz0 := (hF 0 hl0).1
   have hspot : spot = none := by simpa [Addr.add] using World.cell?_spot hz0
   subst hspot
   have hlt : b < W.heap.size := by
    rcases Nat.lt_or_ge b W.heap.size with hlt | hge
    ·exact hlt
    ·unfold World.cell? at hz0
     rw [show (Addr.add ⟨b, off, none⟩ (0 * 5)).block = b from by rw [block_add], Array.getElem?_eq_none hge] at hz0
     simp at hz0
   refine ⟨b, off, rfl, hlt, fun i hi => ?_⟩
   have hi2 : i < len := by simpa using hi
   have hg : ((List.range len).map F).getD i ent0 = F i := by
    rw [List.getD_eq_getElem?_getD, List.getElem?_map, List.getElem?_range hi2]; rfl
   rw [hg]
   obtain ⟨g0, g1, g2, g3, g4, -⟩ := hF i hi2
   rw [Go.WideShapes.add_plain] at g0 g1 g2 g3 g4
   exact ⟨g0, g1, g2, g3, g4⟩
  ·obtain ⟨k, hk, rfl⟩ := List.mem_map.1 he
   exact (hF k (by simpa using hk)).2.2.2.2.2.1
  ·obtain ⟨k, hk, rfl⟩ := List.mem_map.1 he
   exact (hF k (by simpa using hk)).2.2.2.2.2.2
end
theorem bl_inj {a b : ByteArray} (h : a.toList = b.toList) : a = b := by
 rw [ByteArray.toList_eq, ByteArray.toList_eq] at h
 exact ByteArray.ext (Array.toList_inj.1 h)
def allC (p : UInt8 → Bool) (s : ByteArray) : Bool := s.data.toList.all p
theorem tl_at (s : ByteArray) (k : Nat) (h : k < s.size) : s.data.toList[k]'(by simpa using h) = s[k] := by simp; rfl
theorem allC_no {p : UInt8 → Bool} {s : ByteArray} {k : Nat} (h : k < s.size) (hd : p (s[k]'h) = false) : allC p s = false := by
 cases ha : allC p s
 ·rfl
 ·unfold allC at ha
  rw [List.all_eq_true] at ha
  have := ha _ (List.getElem_mem (l := s.data.toList) (n := k) (by simpa using h))
  rw [tl_at s k h, hd] at this
  cases this
theorem allC_yes {p : UInt8 → Bool} {s : ByteArray} (h : ∀ j, (h2 : j < s.size) → p (s[j]'h2) = true) : allC p s = true := by
 unfold allC
 rw [List.all_eq_true]
 intro c hc
 obtain ⟨j, hj, rfl⟩ := List.getElem_of_mem hc
 rw [tl_at s j (by simpa using hj)]
 exact h j (by simpa using hj)
def capB (b : UInt8) : Bool := decide (65 ≤ b.toNat) && decide (b.toNat ≤ 90)
def letB (b : UInt8) : Bool := capB b || (decide (97 ≤ b.toNat) && decide (b.toNat ≤ 122))
def digB (b : UInt8) : Bool := decide (48 ≤ b.toNat) && decide (b.toNat ≤ 57)
def namB (b : UInt8) : Bool := letB b || (digB b || decide (b.toNat = 45))
def curB (s : ByteArray) : Bool := decide (s.size = 3) && allC capB s
def frsB (s : ByteArray) : Bool := if h : 0 < s.size then letB (s[0]'h) else false
def nameB (s : ByteArray) : Bool := decide (s.size ≤ 16) && (frsB s && allC namB s)
theorem curB_no {s : ByteArray} {k : Nat} (h : k < s.size) (hd : capB (s[k]'h) = false) : curB s = false := by
 unfold curB; rw [allC_no h hd]; simp
theorem nameB_no {s : ByteArray} {k : Nat} (h : k < s.size) (hd : namB (s[k]'h) = false) : nameB s = false := by
 unfold nameB; rw [allC_no h hd]; simp
theorem nameB_fr {s : ByteArray} (h : 0 < s.size) (hd : letB (s[0]'h) = false) : nameB s = false := by
 unfold nameB frsB; rw [dif_pos h, hd]; simp
theorem nameB_long {s : ByteArray} (h : 16 < s.size) : nameB s = false := by
 unfold nameB; rw [decide_eq_false (by omega)]; rfl
theorem nameB_nil {s : ByteArray} (h : s.size = 0) : nameB s = false := by
 unfold nameB frsB; rw [dif_neg (by omega)]; simp
theorem nameB_yes {s : ByteArray} (h0 : 0 < s.size) (h : s.size ≤ 16) (hf : letB (s[0]'h0) = true) (ha : ∀ j, (h2 : j < s.size) → namB (s[j]'h2) = true) : nameB s = true := by
 unfold nameB frsB; rw [decide_eq_true h, dif_pos h0, hf, allC_yes ha]; rfl
def basB (a : Acc) : Bool := if a.kind = 1 ∨ a.kind = 2 then decide (a.basis = 1) || decide (a.basis = 3) else if a.kind = 3 then decide (a.basis = 3) else decide (a.basis = 2)
def pbsB (a : Acc) : Bool := if a.kind = 1 ∨ a.kind = 2 then !decide (a.basis = 2) else if a.kind = 3 then decide (a.basis = 3) else decide (a.basis = 2)
theorem bas_eq {a : Acc} (h : kinB true a = true) : pbsB a = basB a := by
 unfold pbsB basB
 split
 ·have h := kinB_is h
  have e1 : loB true = 1 := rfl
  have e2 : hiB true = 3 := rfl
  rw [e1, e2] at h
  have h1 : a.basis = 1 ∨ a.basis = 2 ∨ a.basis = 3 := by omega
  rcases h1 with h1 | h1 | h1 <;> rw [h1] <;> rfl
 ·rfl
def chaB (L : List Acc) : Bool := vB L true && L.all basB
theorem vB_kin {L : List Acc} (h : vB L true = true) : ∀ a ∈ L, kinB true a = true := by
 unfold vB kindsB at h
 simp only [Bool.and_eq_true] at h
 exact List.all_eq_true.1 h.1.1.2
def rlK (i : Nat) : Int := ([1, 1, 1, 1, 3, 3, 3, 3, 3, 4, 4, 4, 5, 5, 5] : List Int).getD i 0
def rlB (i : Nat) : Int := ([3, 3, 3, 1, 3, 3, 3, 3, 3, 2, 2, 2, 2, 2, 2] : List Int).getD i 0
def rlM (i : Nat) : Bool := ([true, false, false, true, false, false, true, false, false, false, false, true, false, false, false] : List Bool).getD i false
def chkR (L : List Acc) (R : List Int) (i : Nat) : Bool := (fnd L (R.getD i 0)).isSome && (decide ((fndA L (R.getD i 0)).kind = rlK i) && decide ((fndA L (R.getD i 0)).basis = rlB i))
def dsR (R : List Int) (i : Nat) : Bool := allTo (fun k => !decide (R.getD k 0 = R.getD i 0)) i
def rlsB (L : List Acc) (R : List Int) : Bool := allTo (chkR L R) 15 && allTo (dsR R) 15
structure RI (R : List Int) (k m : Nat) (S : Int → Bool) : Prop where
 mem : ∀ x, S x = true ↔ ∃ i, i < k ∧ R.getD i 0 = x
 le : m ≤ k
 iff : m = k ↔ allTo (dsR R) k = true
theorem RI.start {R : List Int} : RI R 0 0 (fun _ => false) := ⟨fun x => by simp, Nat.le_refl _, by simp [allTo]⟩
theorem dsR_is {R : List Int} {i : Nat} : dsR R i = true ↔ ∀ k, k < i → R.getD k 0 ≠ R.getD i 0 := by
 unfold dsR
 rw [allTo_is]
 exact ⟨fun h k hk => by have := h k hk; simpa using this, fun h k hk => by have := h k hk; simpa using this⟩
theorem RI.step {R : List Int} {k m : Nat} {S : Int → Bool} {x : Int} (h : RI R k m S) (hx : R.getD k 0 = x) :
  RI R (k + 1) (if S x = true then m else m + 1) (fun a => decide (a = x) || S a) := by
 have hd : dsR R k = !S x := by
  cases hS : S x with
  | true =>
   obtain ⟨i, hi, h1⟩ := (h.mem _).1 hS
   cases hq : dsR R k with
   | false => rfl
   | true => exact absurd (by rw [hx]; exact h1) (dsR_is.1 hq i hi)
  | false =>
   show dsR R k = true
   rw [dsR_is]
   intro i hi h1
   have := (h.mem x).2 ⟨i, hi, by rw [h1, hx]⟩
   rw [hS] at this; cases this
 refine ⟨fun a => ?_, ?_, ?_⟩
 ·simp only [Bool.or_eq_true, decide_eq_true_eq, h.mem]
  constructor
  ·rintro (rfl | ⟨i, hi, h1⟩)
   ·exact ⟨k, by omega, hx⟩
   ·exact ⟨i, by omega, h1⟩
  ·rintro ⟨i, hi, h1⟩
   rcases Nat.lt_or_ge i k with h3 | h3
   ·exact .inr ⟨i, h3, h1⟩
   ·obtain rfl : i = k := by omega
    exact .inl (by rw [← h1, hx])
 ·have := h.le; split <;> omega
 ·have h1 := h.le
  have h2 := h.iff
  simp only [allTo, Bool.and_eq_true, hd]
  cases hS : S x
  ·simp only [Bool.not_false, and_true, if_neg (show ¬ (false = true) by simp)]
   rw [← h2]; omega
  ·simp only [Bool.not_true, if_true]
   constructor
   ·intro h3; omega
   ·rintro ⟨_, h3⟩; cases h3
def opnP (R : List Int) (c : Int) : Bool := decide (c = R.getD 0 0) || (decide (c = R.getD 3 0) || (decide (c = R.getD 6 0) || (decide (c = R.getD 11 0) || !decide (c ∈ R))))
def opnB (R : List Int) (c : Int) : Bool := allTo (fun k => !(decide (c = R.getD k 0) && !rlM k)) 15
theorem opn_eq {R : List Int} (hl : R.length = 15) (hd : allTo (dsR R) 15 = true) (c : Int) : opnP R c = opnB R c := by
 have hne : ∀ i j, i < j → j < 15 → R.getD i 0 ≠ R.getD j 0 := fun i j hij hj => dsR_is.1 (allTo_is.1 hd j hj) i hij
 have hne2 : ∀ i j, i < 15 → j < 15 → R.getD i 0 = R.getD j 0 → i = j := fun i j hi hj e => by
  rcases Nat.lt_trichotomy i j with h | h | h
  ·exact absurd e (hne i j h hj)
  ·exact h
  ·exact absurd e.symm (hne j i h hi)
 have hM : ∀ k, k < 15 → ((!rlM k) = false ↔ k = 0 ∨ k = 3 ∨ k = 6 ∨ k = 11) := by
  intro k hk
  match k, hk with
  | 0, _ | 1, _ | 2, _ | 3, _ | 4, _ | 5, _ | 6, _ | 7, _ | 8, _ | 9, _ | 10, _ | 11, _ | 12, _ | 13, _ | 14, _ => decide
 have hmem : c ∈ R ↔ ∃ k, k < 15 ∧ c = R.getD k 0 := by
  constructor
  ·intro h
   obtain ⟨i, hi, e⟩ := mem_getD_acc (d := (0 : Int)) h
   exact ⟨i, by omega, e.symm⟩
  ·rintro ⟨k, hk, e⟩
   rw [e]; exact getD_mem_acc (by omega)
 rw [Bool.eq_iff_iff]
 unfold opnP opnB
 rw [allTo_is]
 simp only [Bool.or_eq_true, decide_eq_true_eq, Bool.not_eq_true', decide_eq_false_iff_not, Bool.and_eq_false_iff]
 constructor
 ·intro h k hk
  by_cases hc : c = R.getD k 0
  ·refine .inr ((hM k hk).2 ?_)
   rcases h with h | h | h | h | h
   ·exact .inl (hne2 k 0 hk (by omega) (hc.symm.trans h))
   ·exact .inr (.inl (hne2 k 3 hk (by omega) (hc.symm.trans h)))
   ·exact .inr (.inr (.inl (hne2 k 6 hk (by omega) (hc.symm.trans h))))
   ·exact .inr (.inr (.inr (hne2 k 11 hk (by omega) (hc.symm.trans h))))
   ·exact absurd (hmem.2 ⟨k, hk, hc⟩) h
  ·exact .inl hc
 ·intro h
  by_cases hm : c ∈ R
  ·obtain ⟨k, hk, e⟩ := hmem.1 hm
   rcases h k hk with h1 | h1
   ·exact absurd e h1
   ·rcases (hM k hk).1 h1 with rfl | rfl | rfl | rfl
    ·exact .inl e
    ·exact .inr (.inl e)
    ·exact .inr (.inr (.inl e))
    ·exact .inr (.inr (.inr (.inl e)))
  ·exact .inr (.inr (.inr (.inr hm)))
open Go.RowKit
structure Grp where
 cur : ByteArray
 cy : Int
 cm : Int
 cp : Int
 A : Option Addr
 n : Nat
 c : Nat
 r0 : Int
 r1 : Int
 r2 : Int
 r3 : Int
 r4 : Int
 r5 : Int
 r6 : Int
 r7 : Int
 r8 : Int
 r9 : Int
 r10 : Int
 r11 : Int
 r12 : Int
 r13 : Int
 r14 : Int
 E : Option Addr
 m : Nat
 d : Nat
abbrev grpV (g : Grp) : Value := .agg #[.string g.cur, .int .i64 g.cy, .int .i64 g.cm, .int .i64 g.cp, .slice g.A g.n g.c, .int .i64 g.r0, .int .i64 g.r1, .int .i64 g.r2, .int .i64 g.r3, .int .i64 g.r4, .int .i64 g.r5, .int .i64 g.r6, .int .i64 g.r7, .int .i64 g.r8, .int .i64 g.r9, .int .i64 g.r10, .int .i64 g.r11, .int .i64 g.r12, .int .i64 g.r13, .int .i64 g.r14, .slice g.E g.m g.d]
abbrev rolV (g : Grp) : Value := .agg #[.int .i64 g.r0, .int .i64 g.r1, .int .i64 g.r2, .int .i64 g.r3, .int .i64 g.r4, .int .i64 g.r5, .int .i64 g.r6, .int .i64 g.r7, .int .i64 g.r8, .int .i64 g.r9, .int .i64 g.r10, .int .i64 g.r11, .int .i64 g.r12, .int .i64 g.r13, .int .i64 g.r14]
def Grp.R (g : Grp) : List Int := [g.r0, g.r1, g.r2, g.r3, g.r4, g.r5, g.r6, g.r7, g.r8, g.r9, g.r10, g.r11, g.r12, g.r13, g.r14]
theorem R_len (g : Grp) : g.R.length = 15 := rfl
structure GB (w : World) (b : Nat) (g : Grp) : Prop where
 c0 : w.cell? ⟨b, 0, none⟩ = some (.string g.cur)
 c1 : w.cell? ⟨b, 1, none⟩ = some (.int .i64 g.cy)
 c2 : w.cell? ⟨b, 2, none⟩ = some (.int .i64 g.cm)
 c3 : w.cell? ⟨b, 3, none⟩ = some (.int .i64 g.cp)
 c4 : w.cell? ⟨b, 4, none⟩ = some (.slice g.A g.n g.c)
 c5 : w.cell? ⟨b, 5, none⟩ = some (.int .i64 g.r0)
 c6 : w.cell? ⟨b, 6, none⟩ = some (.int .i64 g.r1)
 c7 : w.cell? ⟨b, 7, none⟩ = some (.int .i64 g.r2)
 c8 : w.cell? ⟨b, 8, none⟩ = some (.int .i64 g.r3)
 c9 : w.cell? ⟨b, 9, none⟩ = some (.int .i64 g.r4)
 c10 : w.cell? ⟨b, 10, none⟩ = some (.int .i64 g.r5)
 c11 : w.cell? ⟨b, 11, none⟩ = some (.int .i64 g.r6)
 c12 : w.cell? ⟨b, 12, none⟩ = some (.int .i64 g.r7)
 c13 : w.cell? ⟨b, 13, none⟩ = some (.int .i64 g.r8)
 c14 : w.cell? ⟨b, 14, none⟩ = some (.int .i64 g.r9)
 c15 : w.cell? ⟨b, 15, none⟩ = some (.int .i64 g.r10)
 c16 : w.cell? ⟨b, 16, none⟩ = some (.int .i64 g.r11)
 c17 : w.cell? ⟨b, 17, none⟩ = some (.int .i64 g.r12)
 c18 : w.cell? ⟨b, 18, none⟩ = some (.int .i64 g.r13)
 c19 : w.cell? ⟨b, 19, none⟩ = some (.int .i64 g.r14)
 c20 : w.cell? ⟨b, 20, none⟩ = some (.slice g.E g.m g.d)
 lt : b < w.heap.size
section
variable {w w' : World} {b : Nat} {g : Grp} {e : Ent}
theorem GB.up (h : GB w b g) (hb : Below w.heap.size w w') : GB w' b g :=
 ⟨(hb.cell (p := ⟨b, 0, none⟩) h.lt).trans h.c0, (hb.cell (p := ⟨b, 1, none⟩) h.lt).trans h.c1, (hb.cell (p := ⟨b, 2, none⟩) h.lt).trans h.c2, (hb.cell (p := ⟨b, 3, none⟩) h.lt).trans h.c3, (hb.cell (p := ⟨b, 4, none⟩) h.lt).trans h.c4, (hb.cell (p := ⟨b, 5, none⟩) h.lt).trans h.c5, (hb.cell (p := ⟨b, 6, none⟩) h.lt).trans h.c6, (hb.cell (p := ⟨b, 7, none⟩) h.lt).trans h.c7, (hb.cell (p := ⟨b, 8, none⟩) h.lt).trans h.c8, (hb.cell (p := ⟨b, 9, none⟩) h.lt).trans h.c9, (hb.cell (p := ⟨b, 10, none⟩) h.lt).trans h.c10, (hb.cell (p := ⟨b, 11, none⟩) h.lt).trans h.c11, (hb.cell (p := ⟨b, 12, none⟩) h.lt).trans h.c12, (hb.cell (p := ⟨b, 13, none⟩) h.lt).trans h.c13, (hb.cell (p := ⟨b, 14, none⟩) h.lt).trans h.c14, (hb.cell (p := ⟨b, 15, none⟩) h.lt).trans h.c15, (hb.cell (p := ⟨b, 16, none⟩) h.lt).trans h.c16, (hb.cell (p := ⟨b, 17, none⟩) h.lt).trans h.c17, (hb.cell (p := ⟨b, 18, none⟩) h.lt).trans h.c18, (hb.cell (p := ⟨b, 19, none⟩) h.lt).trans h.c19, (hb.cell (p := ⟨b, 20, none⟩) h.lt).trans h.c20, Nat.lt_of_lt_of_le h.lt hb.size⟩
theorem GB.blk (h : GB w b g) (hk : w'.heap[b]? = w.heap[b]?) : GB w' b g := by
 have e : ∀ i, w'.cell? ⟨b, i, none⟩ = w.cell? ⟨b, i, none⟩ := fun i => by simp only [World.cell?, hk]
 refine ⟨(e 0).trans h.c0, (e 1).trans h.c1, (e 2).trans h.c2, (e 3).trans h.c3, (e 4).trans h.c4, (e 5).trans h.c5, (e 6).trans h.c6, (e 7).trans h.c7, (e 8).trans h.c8, (e 9).trans h.c9, (e 10).trans h.c10, (e 11).trans h.c11, (e 12).trans h.c12, (e 13).trans h.c13, (e 14).trans h.c14, (e 15).trans h.c15, (e 16).trans h.c16, (e 17).trans h.c17, (e 18).trans h.c18, (e 19).trans h.c19, (e 20).trans h.c20, ?_⟩
 have h1 := h.lt
 rcases Nat.lt_or_ge b w'.heap.size with h2 | h2
 ·exact h2
 ·rw [Array.getElem?_eq_none h2, Array.getElem?_eq_getElem h1] at hk; cases hk
theorem gb_new (w : World) (t : TypeId) (g : Grp) : GB (w.alloc (.cells #[.string g.cur, .int .i64 g.cy, .int .i64 g.cm, .int .i64 g.cp, .slice g.A g.n g.c, .int .i64 g.r0, .int .i64 g.r1, .int .i64 g.r2, .int .i64 g.r3, .int .i64 g.r4, .int .i64 g.r5, .int .i64 g.r6, .int .i64 g.r7, .int .i64 g.r8, .int .i64 g.r9, .int .i64 g.r10, .int .i64 g.r11, .int .i64 g.r12, .int .i64 g.r13, .int .i64 g.r14, .slice g.E g.m g.d] t)) w.heap.size g := by
 constructor
 case lt => simp
 all_goals (simp only [World.cell?]; rw [heap_alloc_new]; rfl)
abbrev eV (e : Ent) : Value := .agg #[.string e.nm, .string e.cur, .slice e.A e.n e.c, .slice e.B e.m e.d, .bool e.jt]
structure GrK (w : World) (g : Grp) (L : List Acc) (G : List Ent) : Prop where
 ln : L.length = g.n
 lg : G.length = g.m
 hz : AccAt w g.A L
 he : EntsAt w g.E G
 hk : EntsK w G
theorem GrK.up {L : List Acc} {G : List Ent} (h : GrK w g L G) (hb : Below w.heap.size w w') : GrK w' g L G := ⟨h.ln, h.lg, h.hz.up hb, h.he.up hb, h.hk.up hb⟩
end
structure GrW (g : Grp) (L : List Acc) (G : List Ent) : Prop where
 cur : g.cur.size ≤ maxLen
 rol : ∀ x ∈ g.R, (Lit.int .i64 x).wf = true
 txt : ∀ e ∈ G, e.nm.size ≤ maxLen ∧ e.cur.size ≤ maxLen
structure Sm (g : Grp) (G : List Ent) : Prop where
 n : g.n ≤ 60
 m : g.m ≤ 14
 e : ∀ e ∈ G, e.n ≤ 60 ∧ e.m ≤ 60
theorem ent_at {w : World} {X : Option Addr} {G : List Ent} (h : EntsAt w X G) {k : Nat} (hk : k < G.length) : ∃ b off, X = some ⟨b, off, none⟩ ∧ b < w.heap.size ∧ E5 w b (off + k * 5) (G.getD k ent0) := by
 obtain ⟨b, off, e, hlt, hc⟩ := h (by omega)
 exact ⟨b, off, e, hlt, hc k hk⟩
def dsN (G : List Ent) (i : Nat) : Bool := allTo (fun k => !decide ((G.getD k ent0).nm = (G.getD i ent0).nm)) i
def fix (G : List Ent) (nm : ByteArray) : Nat := G.findIdx fun e => decide (e.nm = nm)
theorem fix_at {G : List Ent} {nm : ByteArray} {k : Nat} (hk : k < G.length) (h0 : ∀ j, j < k → (G.getD j ent0).nm ≠ nm) (h : (G.getD k ent0).nm = nm) : fix G nm = k := by
 unfold fix
 rw [List.findIdx_eq hk]
 refine ⟨?_, fun j hj => ?_⟩
 ·rw [List.getD_eq_getElem?_getD, List.getElem?_eq_getElem hk] at h
  simpa using h
 ·have := h0 j hj
  rw [List.getD_eq_getElem?_getD, List.getElem?_eq_getElem (by omega)] at this
  simpa using this
theorem fix_no {G : List Ent} {nm : ByteArray} (h0 : ∀ j, j < G.length → (G.getD j ent0).nm ≠ nm) : fix G nm = G.length := by
 unfold fix
 rw [List.findIdx_eq_length]
 intro e he
 obtain ⟨i, hi, rfl⟩ := mem_getD_acc (d := ent0) he
 simpa using h0 i hi
theorem dsN_is {G : List Ent} {i : Nat} : dsN G i = true ↔ ∀ k, k < i → (G.getD k ent0).nm ≠ (G.getD i ent0).nm := by
 unfold dsN
 rw [allTo_is]
 exact ⟨fun h k hk => by have := h k hk; simpa using this, fun h k hk => by have := h k hk; simpa using this⟩
theorem fix_ds {G : List Ent} {i : Nat} (hi : i < G.length) : fix G (G.getD i ent0).nm = i ↔ dsN G i = true := by
 rw [dsN_is]
 constructor
 ·intro h k hk e
  have h2 : k < G.findIdx fun e => decide (e.nm = (G.getD i ent0).nm) := by show k < fix G _; omega
  have h3 := List.not_of_lt_findIdx h2
  rw [List.getD_eq_getElem?_getD, List.getElem?_eq_getElem (by omega)] at e
  simp only [Option.getD_some] at e
  simp [e] at h3
 ·intro h
  exact fix_at hi h rfl
theorem gb_range {w : World} {b : Nat} {g : Grp} (h : GB w b g) : w.rangeAt b 0 [.string g.cur, .int .i64 g.cy, .int .i64 g.cm, .int .i64 g.cp, .slice g.A g.n g.c, .int .i64 g.r0, .int .i64 g.r1, .int .i64 g.r2, .int .i64 g.r3, .int .i64 g.r4, .int .i64 g.r5, .int .i64 g.r6, .int .i64 g.r7, .int .i64 g.r8, .int .i64 g.r9, .int .i64 g.r10, .int .i64 g.r11, .int .i64 g.r12, .int .i64 g.r13, .int .i64 g.r14, .slice g.E g.m g.d] := by
 intro j v hv
 rw [Nat.zero_add]
 match j, hv with
 | 0, hv => injection hv with hv; rw [← hv]; exact h.c0
 | 1, hv => injection hv with hv; rw [← hv]; exact h.c1
 | 2, hv => injection hv with hv; rw [← hv]; exact h.c2
 | 3, hv => injection hv with hv; rw [← hv]; exact h.c3
 | 4, hv => injection hv with hv; rw [← hv]; exact h.c4
 | 5, hv => injection hv with hv; rw [← hv]; exact h.c5
 | 6, hv => injection hv with hv; rw [← hv]; exact h.c6
 | 7, hv => injection hv with hv; rw [← hv]; exact h.c7
 | 8, hv => injection hv with hv; rw [← hv]; exact h.c8
 | 9, hv => injection hv with hv; rw [← hv]; exact h.c9
 | 10, hv => injection hv with hv; rw [← hv]; exact h.c10
 | 11, hv => injection hv with hv; rw [← hv]; exact h.c11
 | 12, hv => injection hv with hv; rw [← hv]; exact h.c12
 | 13, hv => injection hv with hv; rw [← hv]; exact h.c13
 | 14, hv => injection hv with hv; rw [← hv]; exact h.c14
 | 15, hv => injection hv with hv; rw [← hv]; exact h.c15
 | 16, hv => injection hv with hv; rw [← hv]; exact h.c16
 | 17, hv => injection hv with hv; rw [← hv]; exact h.c17
 | 18, hv => injection hv with hv; rw [← hv]; exact h.c18
 | 19, hv => injection hv with hv; rw [← hv]; exact h.c19
 | 20, hv => injection hv with hv; rw [← hv]; exact h.c20
 | j + 21, hv => simp at hv
theorem gb_load {w : World} {b : Nat} {g : Grp} (h : GB w b g) : (Instr.loadAt 29 (.pointer (some ⟨b, 0, none⟩))).run Try.prog w = .ok (grpV g) w :=
 run_loadAt_mid w b 0 29 _ _ (gb_range h) Try.underlying29 rfl (by kernel_rfl)
theorem gb_roles {w : World} {b : Nat} {g : Grp} (h : GB w b g) : (Instr.loadAt 26 (.pointer (some ⟨b, 5, none⟩))).run Try.prog w = .ok (rolV g) w :=
 run_loadAt_mid w b 5 26 [.int .i64 g.r0, .int .i64 g.r1, .int .i64 g.r2, .int .i64 g.r3, .int .i64 g.r4, .int .i64 g.r5, .int .i64 g.r6, .int .i64 g.r7, .int .i64 g.r8, .int .i64 g.r9, .int .i64 g.r10, .int .i64 g.r11, .int .i64 g.r12, .int .i64 g.r13, .int .i64 g.r14] _ (fun j v hv => by
  have hj : j < 15 := by
   rcases Nat.lt_or_ge j 15 with hj | hj
   ·exact hj
   ·rw [List.getElem?_eq_none (by simpa using hj)] at hv; cases hv
  have h1 := gb_range h (5 + j) v (by
   have e : ([.string g.cur, .int .i64 g.cy, .int .i64 g.cm, .int .i64 g.cp, .slice g.A g.n g.c, .int .i64 g.r0, .int .i64 g.r1, .int .i64 g.r2, .int .i64 g.r3, .int .i64 g.r4, .int .i64 g.r5, .int .i64 g.r6, .int .i64 g.r7, .int .i64 g.r8, .int .i64 g.r9, .int .i64 g.r10, .int .i64 g.r11, .int .i64 g.r12, .int .i64 g.r13, .int .i64 g.r14, .slice g.E g.m g.d] : List Value)[5 + j]? = ([.int .i64 g.r0, .int .i64 g.r1, .int .i64 g.r2, .int .i64 g.r3, .int .i64 g.r4, .int .i64 g.r5, .int .i64 g.r6, .int .i64 g.r7, .int .i64 g.r8, .int .i64 g.r9, .int .i64 g.r10, .int .i64 g.r11, .int .i64 g.r12, .int .i64 g.r13, .int .i64 g.r14] : List Value)[j]? := by
    match j, hj with
    | 0, _ | 1, _ | 2, _ | 3, _ | 4, _ | 5, _ | 6, _ | 7, _ | 8, _ | 9, _ | 10, _ | 11, _ | 12, _ | 13, _ | 14, _ => rfl
   rw [e]; exact hv)
  rw [Nat.zero_add] at h1
  exact h1) Try.underlying26 rfl (by kernel_rfl)
theorem wpList_load_is {P : Program} {w : World} {ops : Array Oper} {rest : List Oper} {o : Oper} {a : Act} {Q : Exit → Act → World → Prop} (hg : o.guard = none) (ty : TypeId) (x : Operand) (hop : o.op = .load ty x) (p : Value) (hx : a.eval x = p) (V : Value)
  (hl : (Instr.loadAt ty p).run P w = .ok V w) (h : wpList P ops Q rest (a.put o.dst V) w) : wpList P ops Q (o :: rest) a w := by
 refine wpList_plain hg fun K hK => ?_
 unfold Oper.wp execOp
 simp only [hop, hx, Sem.run_bind, hl, Sem.run_pure, Result.andThen_ok]
 exact hK _ _ h
theorem gb_lV {w : World} {b : Nat} {g : Grp} {V : Value} (h : GB w b g) (hV : V = grpV g) : (Instr.loadAt 29 (.pointer (some ⟨b, 0, none⟩))).run Try.prog w = .ok V w := hV ▸ gb_load h
theorem wpList_load_if {P : Program} {w : World} {ops : Array Oper} {rest : List Oper} {o : Oper} {a : Act} {Q : Exit → Act → World → Prop} (hw : Region.wanted o (yielded ops a.tmps) = true) (ty : TypeId) (x : Operand) (hop : o.op = .load ty x) (p : Value) (hx : a.eval x = p) (V : Value)
  (hl : (Instr.loadAt ty p).run P w = .ok V w) (h : wpList P ops Q rest (a.put o.dst V) w) : wpList P ops Q (o :: rest) a w := by
 refine wpList_step fun K hK => ?_
 rw [hw, if_pos rfl]
 unfold Oper.wp execOp
 simp only [hop, hx, Sem.run_bind, hl, Sem.run_pure, Result.andThen_ok]
 exact hK _ _ h
open Go.RowKit
structure Ety where
 id : Int
 ent : Int
 day : Int
 kind : Int
 of_ : Int
 txt : ByteArray
 A : Option Addr
 n : Nat
 c : Nat
def grpC (g : Grp) : List Value := [.string g.cur, .int .i64 g.cy, .int .i64 g.cm, .int .i64 g.cp, .slice g.A g.n g.c, .int .i64 g.r0, .int .i64 g.r1, .int .i64 g.r2, .int .i64 g.r3, .int .i64 g.r4, .int .i64 g.r5, .int .i64 g.r6, .int .i64 g.r7, .int .i64 g.r8, .int .i64 g.r9, .int .i64 g.r10, .int .i64 g.r11, .int .i64 g.r12, .int .i64 g.r13, .int .i64 g.r14, .slice g.E g.m g.d]
def etyC (x : Ety) : List Value := [.int .i64 x.id, .int .i64 x.ent, .int .i64 x.day, .int .i64 x.kind, .int .i64 x.of_, .string x.txt, .slice x.A x.n x.c]
abbrev etyV (x : Ety) : Value := .agg #[.int .i64 x.id, .int .i64 x.ent, .int .i64 x.day, .int .i64 x.kind, .int .i64 x.of_, .string x.txt, .slice x.A x.n x.c]
theorem grpV_is (g : Grp) : grpV g = .agg (grpC g).toArray := rfl
theorem etyV_is (x : Ety) : etyV x = .agg (etyC x).toArray := rfl
structure Rg (w : World) (b : Nat) (cs : List Value) : Prop where
 cell : ∀ j v, cs[j]? = some v → w.cell? ⟨b, j, none⟩ = some v
 lt : b < w.heap.size
theorem Rg.load {P : Program} {w : World} {b : Nat} {cs : List Value} (h : Rg w b cs) (off : Nat) (ty : TypeId) (sub : List Value) (hs : sub = (cs.drop off).take sub.length) (d : TypeDesc) (hu : P.underlying ty = some d) (hd : d.isRow = true) (hi : (P.info? ty).map (·.size) = some sub.length) :
  (Instr.loadAt ty (.pointer (some ⟨b, off, none⟩))).run P w = .ok (.agg sub.toArray) w :=
 run_loadAt_mid w b off ty sub d (fun j v hj => h.cell _ _ (by
  rw [hs, List.getElem?_take] at hj
  split at hj
  ·rwa [List.getElem?_drop] at hj
  ·cases hj)) hu hd hi
theorem wpList_build_is {P : Program} {w : World} {ops : Array Oper} {rest : List Oper} {o : Oper} {a : Act} {Q : Exit → Act → World → Prop} (hg : o.guard = none) (ty : TypeId) (ps : Array (Nat × Operand)) (hop : o.op = .build ty ps) (L : List (Nat × Value)) (hL : (ps.toList.map fun p => (p.1, a.eval p.2)) = L) (V : Value)
  (hl : (Instr.build ty L.toArray).run P w = .ok V w) (h : wpList P ops Q rest (a.put o.dst V) w) : wpList P ops Q (o :: rest) a w := by
 refine wpList_plain hg fun K hK => ?_
 have he : (ps.map fun p => (p.1, a.eval p.2)) = L.toArray := by rw [← hL]; exact Array.ext' (by rw [Array.toList_map])
 have hl2 : (Instr.build ty (ps.map fun x => match x with | (i, x) => (i, a.eval x))).run P w = .ok V w := by
  rw [← he] at hl; exact hl
 unfold Oper.wp execOp
 simp only [hop, Sem.run_bind, hl2, Sem.run_pure, Result.andThen_ok]
 exact hK _ _ h
theorem ghasb_any (a : Acc) (w : World) : Calls Try.prog 52 #[accV a] w fun e w' => e = .returned (.bool (pbsB a)) ∧ Below w.heap.size w w' := by
 have hB := below_alloc_new (w := w) (.cells #[.int .i64 a.code, .int .i64 a.kind, .int .i64 a.basis, .int .i64 a.par] 71)
 obtain ⟨⟨c0, c1, c2, c3⟩, lt, -⟩ := ab_new w 71 a
 simp only [Nat.zero_add] at c1 c2 c3
 have e2 : (a.basis == 2) = decide (a.basis = 2) := rfl
 have e3 : (a.basis == 3) = decide (a.basis = 3) := rfl
 have e1 : (a.basis == 1) = decide (a.basis = 1) := rfl
 have f2 : (a.basis != 2) = !decide (a.basis = 2) := rfl
 unfold pbsB
 generalize decide (a.basis = 1) = q1 at *
 generalize decide (a.basis = 2) = q2 at *
 generalize decide (a.basis = 3) = q3 at *
 by_cases k1 : a.kind = 1
 ·have g1 : (a.kind == 1) = true := by simp [k1]
  rw [if_pos (.inl k1)]
  clear k1
  go_enter Try.func52, Try.ntmps52
  go_wp2_with fail
  go_ret
  exact ⟨rfl, hB⟩
 have g1 : (a.kind == 1) = false := by simp [k1]
 by_cases k2 : a.kind = 2
 ·have g2 : (a.kind == 2) = true := by simp [k2]
  rw [if_pos (.inr k2)]
  clear k1 k2
  go_enter Try.func52, Try.ntmps52
  go_wp2_with fail
  go_ret
  exact ⟨rfl, hB⟩
 have g2 : (a.kind == 2) = false := by simp [k2]
 rw [if_neg (by omega)]
 clear k1 k2
 by_cases k3 : a.kind = 3
 ·have g3 : (a.kind == 3) = true := by simp [k3]
  rw [if_pos k3]
  clear k3
  go_enter Try.func52, Try.ntmps52
  go_wp2_with fail
  go_ret
  exact ⟨rfl, hB⟩
 ·have g3 : (a.kind == 3) = false := by simp [k3]
  rw [if_neg k3]
  clear k3
  go_enter Try.func52, Try.ntmps52
  go_wp2_with fail
  go_ret
  exact ⟨rfl, hB⟩
theorem rbas_any (a : Acc) (w : World) : Calls Try.prog 27 #[accV a] w fun e w' => e = .returned (.bool (basB a)) ∧ Below w.heap.size w w' := by
 have hB := below_alloc_new (w := w) (.cells #[.int .i64 a.code, .int .i64 a.kind, .int .i64 a.basis, .int .i64 a.par] 71)
 obtain ⟨⟨c0, c1, c2, c3⟩, lt, -⟩ := ab_new w 71 a
 simp only [Nat.zero_add] at c1 c2 c3
 have e2 : (a.basis == 2) = decide (a.basis = 2) := rfl
 have e3 : (a.basis == 3) = decide (a.basis = 3) := rfl
 have e1 : (a.basis == 1) = decide (a.basis = 1) := rfl
 have f2 : (a.basis != 2) = !decide (a.basis = 2) := rfl
 unfold basB
 generalize decide (a.basis = 1) = q1 at *
 generalize decide (a.basis = 2) = q2 at *
 generalize decide (a.basis = 3) = q3 at *
 by_cases k1 : a.kind = 1
 ·have g1 : (a.kind == 1) = true := by simp [k1]
  rw [if_pos (.inl k1)]
  clear k1
  cases q1
  ·go_enter Try.func27, Try.ntmps27
   go_wp2_with fail
   go_ret
   exact ⟨rfl, hB⟩
  ·go_enter Try.func27, Try.ntmps27
   go_wp2_with fail
   go_ret
   exact ⟨rfl, hB⟩
 have g1 : (a.kind == 1) = false := by simp [k1]
 by_cases k2 : a.kind = 2
 ·have g2 : (a.kind == 2) = true := by simp [k2]
  rw [if_pos (.inr k2)]
  clear k1 k2
  cases q1
  ·go_enter Try.func27, Try.ntmps27
   go_wp2_with fail
   go_ret
   exact ⟨rfl, hB⟩
  ·go_enter Try.func27, Try.ntmps27
   go_wp2_with fail
   go_ret
   exact ⟨rfl, hB⟩
 have g2 : (a.kind == 2) = false := by simp [k2]
 rw [if_neg (by omega)]
 clear k1 k2
 by_cases k3 : a.kind = 3
 ·have g3 : (a.kind == 3) = true := by simp [k3]
  rw [if_pos k3]
  clear k3
  go_enter Try.func27, Try.ntmps27
  go_wp2_with fail
  go_ret
  exact ⟨rfl, hB⟩
 ·have g3 : (a.kind == 3) = false := by simp [k3]
  rw [if_neg k3]
  clear k3
  go_enter Try.func27, Try.ntmps27
  go_wp2_with fail
  go_ret
  exact ⟨rfl, hB⟩
theorem chaB_no {L : List Acc} {k : Nat} (hk : k < L.length) (h : basB (L.getD k acc0) = false) : chaB L = false := by
 unfold chaB
 rw [show L.all basB = false from List.all_eq_false.2 ⟨_, getD_mem_acc hk, by rw [h]; simp⟩]; simp
theorem chaB_end {L : List Acc} (hv : vB L true = true) (h : allTo (fun i => basB (L.getD i acc0)) L.length = true) : chaB L = true := by
 unfold chaB
 rw [hv, show L.all basB = true from all_getD.2 (allTo_is.1 h)]; rfl
set_option maxRecDepth 20000 in
set_option maxHeartbeats 1600000 in
theorem gcha_any (A : Option Addr) (cp : Nat) (L : List Acc) (w : World) (hz : AccAt w A L) (hl : L.length ≤ 1000) :
  Calls Try.prog 36 #[.slice A L.length cp] w fun e w' => e = .returned (.bool (chaB L)) ∧ Below w.heap.size w w' := by
 have hB := Below.refl w.heap.size w
 have h1 := fun w h => cvalid8_any A cp L true w h hl
 have hno := fun k => chaB_no (L := L) (k := k)
 have hend := chaB_end (L := L)
 cases hv : vB L true
 ·have E : Hid (chaB L = false) := Lib.hid (by unfold chaB; rw [hv]; rfl)
  rw [hv] at h1
  have H1 := Lib.hid h1
  have HZ := Lib.hid hz
  generalize L.length = n at *
  clear h1 hno hend hz hv
  go_enter Try.func36, Try.ntmps36
  go_wp2_with (go_at_call 51; refine (H1.out _ HZ.out).mono ?_; rintro e w1 ⟨rfl, hb⟩; replace hB := below_more hB hb; clear hb)
  go_ret
  exact ⟨by rw [E.out]; rfl, hB⟩
 have hkin := vB_kin hv
 have hpk : ∀ k, k < L.length → pbsB (L.getD k acc0) = basB (L.getD k acc0) := fun k hk => bas_eq (hkin _ (getD_mem_acc hk))
 replace hend := hend hv
 rw [hv] at h1
 obtain ⟨P, hP⟩ : ∃ P : Nat → Bool, (fun i => basB (L.getD i acc0)) = P := ⟨_, rfl⟩
 have hPk : ∀ k, basB (L.getD k acc0) = P k := fun k => by rw [← hP]
 rw [hP] at hend
 simp only [hPk] at hno hpk
 obtain ⟨n, hn⟩ : ∃ n, L.length = n := ⟨_, rfl⟩
 obtain ⟨s0, hs0⟩ : ∃ s0, w.heap.size = s0 := ⟨_, rfl⟩
 rw [hn] at hl h1 hno hend hpk ⊢
 rw [hs0] at hB ⊢
 have HN := Lib.hid hn
 have HZ := Lib.hid hz
 have H1 := Lib.hid h1
 have HNo := Lib.hid hno
 have HE := Lib.hid hend
 have HPK := Lib.hid hpk
 have HS0 := Lib.hid hs0
 clear hn hz h1 hno hend hpk hP hPk hv hkin
 go_enter Try.func36, Try.ntmps36
 go_wp2_with (go_at_call 51; refine (H1.out _ HZ.out).mono ?_; rintro e w1 ⟨rfl, hb⟩; replace hB := hB.trans (hb.mono (by rw [← HS0.out]; exact Nat.le_refl _)); clear hb)
 clear hs0
 go_loopg [10] n (fun kx s10 wr => ∃ k : Nat, s10 = .int .i64 k ∧ k ≤ n ∧ n - k ≤ kx ∧ Hid (allTo P k = true) ∧ Below s0 w wr)
 case atStart => exact ⟨0, rfl, by omega, by omega, Lib.hid rfl, hB⟩
 case round =>
  clear hB
  obtain ⟨k, rfl, hk, hkx, HA, hB⟩ := hrel
  by_cases hlt : k < n
  ·have hltz : (k : Int) < (n : Int) := by omega
   have hsz : s0 ≤ wr.heap.size := by have := hB.size; have := HS0.out; omega
   obtain ⟨b, off, rfl, hbw, hcs⟩ := HZ.out (by rw [HN.out]; omega)
   obtain ⟨c0, c1, c2, c3⟩ := (hcs k (by rw [HN.out]; exact hlt)).up hB (by have := HS0.out; omega)
   have hpk := HPK.out k hlt
   have hno := HNo.out k hlt
   obtain ⟨x, hx⟩ : ∃ x, L.getD k acc0 = x := ⟨_, rfl⟩
   rw [hx] at c0 c1 c2 c3 hpk
   have hX := ab_new wr 71 x
   have hB1 : Below s0 w (wr.alloc (.cells #[.int .i64 x.code, .int .i64 x.kind, .int .i64 x.basis, .int .i64 x.par] 71)) := hB.alloc hsz _
   obtain ⟨⟨z0, z1, z2, z3⟩, zlt, -⟩ := hX
   simp only [Nat.zero_add] at z1 z2 z3
   have hb := fun w => ghasb_any x w
   rw [hpk] at hb
   have hs2 : s0 ≤ (wr.alloc (.cells #[.int .i64 x.code, .int .i64 x.kind, .int .i64 x.basis, .int .i64 x.par] 71)).heap.size := by simp; omega
   have HS2 := Lib.hid hs2
   have HA2 := fun (h : P k = true) => Lib.hid (show allTo P (k + 1) = true by show (allTo P k && P k) = true; rw [HA.out, h]; rfl)
   generalize P k = q at *
   have HB := Lib.hid hb
   clear hx hcs hpk hb hs2 HA
   cases q
   ·have HR := Lib.hid (hno rfl)
    clear hno HA2
    go_wp2_with (go_at_call 52; refine (HB.out _).mono ?_; rintro e w2 ⟨rfl, hb⟩; have hB2 := hB1.trans (hb.mono HS2.out); clear hb)
    go_ret
    exact ⟨by rw [HR.out]; rfl, hB2⟩
   ·have HA3 := HA2 rfl
    clear hno HA2
    go_wp2_with (go_at_call 52; refine (HB.out _).mono ?_; rintro e w2 ⟨rfl, hb⟩; have hB2 := hB1.trans (hb.mono HS2.out); clear hb)
    go_roundg (n - (k + 1))
    case measure => omega
    case rel => exact ⟨k + 1, by go_num, by omega, by omega, HA3, hB2⟩
  ·obtain rfl : k = n := by omega
   have hltz : ¬ (k : Int) < (k : Int) := by omega
   have HR := Lib.hid (HE.out HA.out)
   go_wp2_with fail
   go_ret
   exact ⟨by rw [HR.out]; rfl, hB⟩
set_option maxRecDepth 20000 in
set_option maxHeartbeats 1600000 in
theorem gacct_any (g : Grp) (L : List Acc) (c : Int) (w : World) (hz : AccAt w g.A L) (ln : L.length = g.n) (hl : g.n ≤ 1000) :
  Calls Try.prog 54 #[grpV g, .int .i64 c] w fun e w' => e = .returned (.tuple #[accV (fndA L c), .bool (fnd L c).isSome]) ∧ Below w.heap.size w w' := by
 have hB1 := below_alloc_new (w := w) (.cells #[.string g.cur, .int .i64 g.cy, .int .i64 g.cm, .int .i64 g.cp, .slice g.A g.n g.c, .int .i64 g.r0, .int .i64 g.r1, .int .i64 g.r2, .int .i64 g.r3, .int .i64 g.r4, .int .i64 g.r5, .int .i64 g.r6, .int .i64 g.r7, .int .i64 g.r8, .int .i64 g.r9, .int .i64 g.r10, .int .i64 g.r11, .int .i64 g.r12, .int .i64 g.r13, .int .i64 g.r14, .slice g.E g.m g.d] 29)
 have hB := below_new hB1 (.cells #[.int .i64 acc0.code, .int .i64 acc0.kind, .int .i64 acc0.basis, .int .i64 acc0.par] 71)
 have hG := (gb_new w 29 g).up (below_alloc_new (.cells #[.int .i64 acc0.code, .int .i64 acc0.kind, .int .i64 acc0.basis, .int .i64 acc0.par] 71))
 have hA := ab_new (w.alloc (.cells #[.string g.cur, .int .i64 g.cy, .int .i64 g.cm, .int .i64 g.cp, .slice g.A g.n g.c, .int .i64 g.r0, .int .i64 g.r1, .int .i64 g.r2, .int .i64 g.r3, .int .i64 g.r4, .int .i64 g.r5, .int .i64 g.r6, .int .i64 g.r7, .int .i64 g.r8, .int .i64 g.r9, .int .i64 g.r10, .int .i64 g.r11, .int .i64 g.r12, .int .i64 g.r13, .int .i64 g.r14, .slice g.E g.m g.d] 29)) 71 acc0
 have e1 : (w.alloc (.cells #[.string g.cur, .int .i64 g.cy, .int .i64 g.cm, .int .i64 g.cp, .slice g.A g.n g.c, .int .i64 g.r0, .int .i64 g.r1, .int .i64 g.r2, .int .i64 g.r3, .int .i64 g.r4, .int .i64 g.r5, .int .i64 g.r6, .int .i64 g.r7, .int .i64 g.r8, .int .i64 g.r9, .int .i64 g.r10, .int .i64 g.r11, .int .i64 g.r12, .int .i64 g.r13, .int .i64 g.r14, .slice g.E g.m g.d] 29)).heap.size = w.heap.size + 1 := by simp
 rw [e1] at hA
 have hz2 := hz.up hB
 have h1 := fun w h => cfind_any g.A g.c L c w h (by omega)
 rw [ln] at h1
 generalize fndA L c = x at *
 generalize (fnd L c).isSome = q at *
 obtain ⟨s0, hs0⟩ : ∃ s0, w.heap.size = s0 := ⟨_, rfl⟩
 rw [hs0] at hB hG hA ⊢
 have HS0 := Lib.hid hs0
 have HZ := Lib.hid hz2
 have HA := Lib.hid hA
 have H1 := Lib.hid h1
 have c4 := hG.c4
 clear hz hz2 ln hl hB1 e1 hG hA h1
 have hs1 : s0 ≤ ((w.alloc (.cells #[.string g.cur, .int .i64 g.cy, .int .i64 g.cm, .int .i64 g.cp, .slice g.A g.n g.c, .int .i64 g.r0, .int .i64 g.r1, .int .i64 g.r2, .int .i64 g.r3, .int .i64 g.r4, .int .i64 g.r5, .int .i64 g.r6, .int .i64 g.r7, .int .i64 g.r8, .int .i64 g.r9, .int .i64 g.r10, .int .i64 g.r11, .int .i64 g.r12, .int .i64 g.r13, .int .i64 g.r14, .slice g.E g.m g.d] 29)).alloc (.cells #[.int .i64 acc0.code, .int .i64 acc0.kind, .int .i64 acc0.basis, .int .i64 acc0.par] 71)).heap.size := by simp; omega
 have HS1 := Lib.hid hs1
 clear hs1
 go_enter Try.func54, Try.ntmps54
 go_wp2_with (go_at_call 66; refine (H1.out _ HZ.out).mono ?_; rintro e w1 ⟨rfl, hb⟩; have hB2 := hB.trans (hb.mono HS1.out); have HA2 := HA.out.up hb; clear hb HA; obtain ⟨⟨z0, z1, z2, z3⟩, zlt, zf⟩ := HA2; have zf0 := zf 0; have zf1 := zf 1; have zf2 := zf 2; have zf3 := zf 3; simp only [Nat.zero_add] at z1 z2 z3; clear zf)
 exact bodyPost_ret (v := .tuple #[accV x, .bool q]) (by simp [results, Try.results54, go_sem, z0, z1, z2, z3]) rfl ⟨rfl, bset4 hB2 (by omega) _ _ _ _⟩
set_option maxRecDepth 20000 in
set_option maxHeartbeats 1600000 in
theorem racct_any (g : Grp) (L : List Acc) (c : Int) (w : World) (hz : AccAt w g.A L) (ln : L.length = g.n) (hl : g.n ≤ 1000) :
  Calls Try.prog 29 #[grpV g, .int .i64 c] w fun e w' => e = .returned (.tuple #[accV (fndA L c), .bool (fnd L c).isSome]) ∧ Below w.heap.size w w' := by
 have hB1 := below_alloc_new (w := w) (.cells #[.string g.cur, .int .i64 g.cy, .int .i64 g.cm, .int .i64 g.cp, .slice g.A g.n g.c, .int .i64 g.r0, .int .i64 g.r1, .int .i64 g.r2, .int .i64 g.r3, .int .i64 g.r4, .int .i64 g.r5, .int .i64 g.r6, .int .i64 g.r7, .int .i64 g.r8, .int .i64 g.r9, .int .i64 g.r10, .int .i64 g.r11, .int .i64 g.r12, .int .i64 g.r13, .int .i64 g.r14, .slice g.E g.m g.d] 29)
 have hB := below_new hB1 (.cells #[.int .i64 acc0.code, .int .i64 acc0.kind, .int .i64 acc0.basis, .int .i64 acc0.par] 71)
 have hG := (gb_new w 29 g).up (below_alloc_new (.cells #[.int .i64 acc0.code, .int .i64 acc0.kind, .int .i64 acc0.basis, .int .i64 acc0.par] 71))
 have hA := ab_new (w.alloc (.cells #[.string g.cur, .int .i64 g.cy, .int .i64 g.cm, .int .i64 g.cp, .slice g.A g.n g.c, .int .i64 g.r0, .int .i64 g.r1, .int .i64 g.r2, .int .i64 g.r3, .int .i64 g.r4, .int .i64 g.r5, .int .i64 g.r6, .int .i64 g.r7, .int .i64 g.r8, .int .i64 g.r9, .int .i64 g.r10, .int .i64 g.r11, .int .i64 g.r12, .int .i64 g.r13, .int .i64 g.r14, .slice g.E g.m g.d] 29)) 71 acc0
 have e1 : (w.alloc (.cells #[.string g.cur, .int .i64 g.cy, .int .i64 g.cm, .int .i64 g.cp, .slice g.A g.n g.c, .int .i64 g.r0, .int .i64 g.r1, .int .i64 g.r2, .int .i64 g.r3, .int .i64 g.r4, .int .i64 g.r5, .int .i64 g.r6, .int .i64 g.r7, .int .i64 g.r8, .int .i64 g.r9, .int .i64 g.r10, .int .i64 g.r11, .int .i64 g.r12, .int .i64 g.r13, .int .i64 g.r14, .slice g.E g.m g.d] 29)).heap.size = w.heap.size + 1 := by simp
 rw [e1] at hA
 have hz2 := hz.up hB
 have h1 := fun w h => rfind_any g.A g.c L c w h (by omega)
 rw [ln] at h1
 generalize fndA L c = x at *
 generalize (fnd L c).isSome = q at *
 obtain ⟨s0, hs0⟩ : ∃ s0, w.heap.size = s0 := ⟨_, rfl⟩
 rw [hs0] at hB hG hA ⊢
 have HS0 := Lib.hid hs0
 have HZ := Lib.hid hz2
 have HA := Lib.hid hA
 have H1 := Lib.hid h1
 have c4 := hG.c4
 clear hz hz2 ln hl hB1 e1 hG hA h1
 have hs1 : s0 ≤ ((w.alloc (.cells #[.string g.cur, .int .i64 g.cy, .int .i64 g.cm, .int .i64 g.cp, .slice g.A g.n g.c, .int .i64 g.r0, .int .i64 g.r1, .int .i64 g.r2, .int .i64 g.r3, .int .i64 g.r4, .int .i64 g.r5, .int .i64 g.r6, .int .i64 g.r7, .int .i64 g.r8, .int .i64 g.r9, .int .i64 g.r10, .int .i64 g.r11, .int .i64 g.r12, .int .i64 g.r13, .int .i64 g.r14, .slice g.E g.m g.d] 29)).alloc (.cells #[.int .i64 acc0.code, .int .i64 acc0.kind, .int .i64 acc0.basis, .int .i64 acc0.par] 71)).heap.size := by simp; omega
 have HS1 := Lib.hid hs1
 clear hs1
 go_enter Try.func29, Try.ntmps29
 go_wp2_with (go_at_call 42; refine (H1.out _ HZ.out).mono ?_; rintro e w1 ⟨rfl, hb⟩; have hB2 := hB.trans (hb.mono HS1.out); have HA2 := HA.out.up hb; clear hb HA; obtain ⟨⟨z0, z1, z2, z3⟩, zlt, zf⟩ := HA2; have zf0 := zf 0; have zf1 := zf 1; have zf2 := zf 2; have zf3 := zf 3; simp only [Nat.zero_add] at z1 z2 z3; clear zf)
 exact bodyPost_ret (v := .tuple #[accV x, .bool q]) (by simp [results, Try.results29, go_sem, z0, z1, z2, z3]) rfl ⟨rfl, bset4 hB2 (by omega) _ _ _ _⟩
def rlN (i : Nat) : ByteArray := ([⟨#[105, 110, 118, 101, 115, 116, 109, 101, 110, 116]⟩, ⟨#[103, 111, 111, 100, 119, 105, 108, 108]⟩, ⟨#[97, 115, 115, 111, 99, 105, 97, 116, 101, 115]⟩, ⟨#[105, 110, 118, 101, 110, 116, 111, 114, 121]⟩, ⟨#[114, 101, 115, 101, 114, 118, 101]⟩, ⟨#[109, 105, 110, 111, 114, 105, 116, 121]⟩, ⟨#[114, 101, 116, 97, 105, 110, 101, 100]⟩, ⟨#[97, 99, 113, 117, 105, 114, 101, 100]⟩, ⟨#[111, 119, 110, 101, 114, 115]⟩, ⟨#[100, 105, 115, 112, 111, 115, 97, 108]⟩, ⟨#[97, 115, 115, 111, 99, 105, 97, 116, 101, 80, 114, 111, 102, 105, 116]⟩, ⟨#[100, 105, 118, 105, 100, 101, 110, 100, 115]⟩, ⟨#[109, 105, 110, 111, 114, 105, 116, 121, 80, 114, 111, 102, 105, 116]⟩, ⟨#[100, 105, 102, 102, 101, 114, 101, 110, 99, 101]⟩, ⟨#[109, 97, 114, 103, 105, 110]⟩] : List ByteArray).getD i ⟨#[]⟩
abbrev rpC (g : Grp) : Array Value := #[.string ⟨#[105, 110, 118, 101, 115, 116, 109, 101, 110, 116]⟩, .int .i64 g.r0, .int .i64 1, .int .i64 3, .string ⟨#[103, 111, 111, 100, 119, 105, 108, 108]⟩, .int .i64 g.r1, .int .i64 1, .int .i64 3, .string ⟨#[97, 115, 115, 111, 99, 105, 97, 116, 101, 115]⟩, .int .i64 g.r2, .int .i64 1, .int .i64 3, .string ⟨#[105, 110, 118, 101, 110, 116, 111, 114, 121]⟩, .int .i64 g.r3, .int .i64 1, .int .i64 1, .string ⟨#[114, 101, 115, 101, 114, 118, 101]⟩, .int .i64 g.r4, .int .i64 3, .int .i64 3, .string ⟨#[109, 105, 110, 111, 114, 105, 116, 121]⟩, .int .i64 g.r5, .int .i64 3, .int .i64 3, .string ⟨#[114, 101, 116, 97, 105, 110, 101, 100]⟩, .int .i64 g.r6, .int .i64 3, .int .i64 3, .string ⟨#[97, 99, 113, 117, 105, 114, 101, 100]⟩, .int .i64 g.r7, .int .i64 3, .int .i64 3, .string ⟨#[111, 119, 110, 101, 114, 115]⟩, .int .i64 g.r8, .int .i64 3, .int .i64 3, .string ⟨#[100, 105, 115, 112, 111, 115, 97, 108]⟩, .int .i64 g.r9, .int .i64 4, .int .i64 2, .string ⟨#[97, 115, 115, 111, 99, 105, 97, 116, 101, 80, 114, 111, 102, 105, 116]⟩, .int .i64 g.r10, .int .i64 4, .int .i64 2, .string ⟨#[100, 105, 118, 105, 100, 101, 110, 100, 115]⟩, .int .i64 g.r11, .int .i64 4, .int .i64 2, .string ⟨#[109, 105, 110, 111, 114, 105, 116, 121, 80, 114, 111, 102, 105, 116]⟩, .int .i64 g.r12, .int .i64 5, .int .i64 2, .string ⟨#[100, 105, 102, 102, 101, 114, 101, 110, 99, 101]⟩, .int .i64 g.r13, .int .i64 5, .int .i64 2, .string ⟨#[109, 97, 114, 103, 105, 110]⟩, .int .i64 g.r14, .int .i64 5, .int .i64 2]
abbrev rrC (g : Grp) : Array Value := #[.string ⟨#[105, 110, 118, 101, 115, 116, 109, 101, 110, 116]⟩, .int .i64 g.r0, .int .i64 1, .int .i64 3, .bool true, .string ⟨#[103, 111, 111, 100, 119, 105, 108, 108]⟩, .int .i64 g.r1, .int .i64 1, .int .i64 3, .bool false, .string ⟨#[97, 115, 115, 111, 99, 105, 97, 116, 101, 115]⟩, .int .i64 g.r2, .int .i64 1, .int .i64 3, .bool false, .string ⟨#[105, 110, 118, 101, 110, 116, 111, 114, 121]⟩, .int .i64 g.r3, .int .i64 1, .int .i64 1, .bool true, .string ⟨#[114, 101, 115, 101, 114, 118, 101]⟩, .int .i64 g.r4, .int .i64 3, .int .i64 3, .bool false, .string ⟨#[109, 105, 110, 111, 114, 105, 116, 121]⟩, .int .i64 g.r5, .int .i64 3, .int .i64 3, .bool false, .string ⟨#[114, 101, 116, 97, 105, 110, 101, 100]⟩, .int .i64 g.r6, .int .i64 3, .int .i64 3, .bool true, .string ⟨#[97, 99, 113, 117, 105, 114, 101, 100]⟩, .int .i64 g.r7, .int .i64 3, .int .i64 3, .bool false, .string ⟨#[111, 119, 110, 101, 114, 115]⟩, .int .i64 g.r8, .int .i64 3, .int .i64 3, .bool false, .string ⟨#[100, 105, 115, 112, 111, 115, 97, 108]⟩, .int .i64 g.r9, .int .i64 4, .int .i64 2, .bool false, .string ⟨#[97, 115, 115, 111, 99, 105, 97, 116, 101, 80, 114, 111, 102, 105, 116]⟩, .int .i64 g.r10, .int .i64 4, .int .i64 2, .bool false, .string ⟨#[100, 105, 118, 105, 100, 101, 110, 100, 115]⟩, .int .i64 g.r11, .int .i64 4, .int .i64 2, .bool true, .string ⟨#[109, 105, 110, 111, 114, 105, 116, 121, 80, 114, 111, 102, 105, 116]⟩, .int .i64 g.r12, .int .i64 5, .int .i64 2, .bool false, .string ⟨#[100, 105, 102, 102, 101, 114, 101, 110, 99, 101]⟩, .int .i64 g.r13, .int .i64 5, .int .i64 2, .bool false, .string ⟨#[109, 97, 114, 103, 105, 110]⟩, .int .i64 g.r14, .int .i64 5, .int .i64 2, .bool false]
theorem rp_get (g : Grp) : ∀ i, i < 15 → (rpC g).toList.extract (i * 4) (i * 4 + 4) = [.string (rlN i), .int .i64 (g.R.getD i 0), .int .i64 (rlK i), .int .i64 (rlB i)] := by
 intro i hi
 match i, hi with
 | 0, _ | 1, _ | 2, _ | 3, _ | 4, _ | 5, _ | 6, _ | 7, _ | 8, _ | 9, _ | 10, _ | 11, _ | 12, _ | 13, _ | 14, _ => rfl
structure RB (w : World) (b : Nat) (g : Grp) : Prop where
 c0 : w.cell? ⟨b, 0, none⟩ = some (.int .i64 g.r0)
 c1 : w.cell? ⟨b, 1, none⟩ = some (.int .i64 g.r1)
 c2 : w.cell? ⟨b, 2, none⟩ = some (.int .i64 g.r2)
 c3 : w.cell? ⟨b, 3, none⟩ = some (.int .i64 g.r3)
 c4 : w.cell? ⟨b, 4, none⟩ = some (.int .i64 g.r4)
 c5 : w.cell? ⟨b, 5, none⟩ = some (.int .i64 g.r5)
 c6 : w.cell? ⟨b, 6, none⟩ = some (.int .i64 g.r6)
 c7 : w.cell? ⟨b, 7, none⟩ = some (.int .i64 g.r7)
 c8 : w.cell? ⟨b, 8, none⟩ = some (.int .i64 g.r8)
 c9 : w.cell? ⟨b, 9, none⟩ = some (.int .i64 g.r9)
 c10 : w.cell? ⟨b, 10, none⟩ = some (.int .i64 g.r10)
 c11 : w.cell? ⟨b, 11, none⟩ = some (.int .i64 g.r11)
 c12 : w.cell? ⟨b, 12, none⟩ = some (.int .i64 g.r12)
 c13 : w.cell? ⟨b, 13, none⟩ = some (.int .i64 g.r13)
 c14 : w.cell? ⟨b, 14, none⟩ = some (.int .i64 g.r14)
 lt : b < w.heap.size
theorem rb_new (w : World) (t : TypeId) (g : Grp) : RB (w.alloc (.cells #[.int .i64 g.r0, .int .i64 g.r1, .int .i64 g.r2, .int .i64 g.r3, .int .i64 g.r4, .int .i64 g.r5, .int .i64 g.r6, .int .i64 g.r7, .int .i64 g.r8, .int .i64 g.r9, .int .i64 g.r10, .int .i64 g.r11, .int .i64 g.r12, .int .i64 g.r13, .int .i64 g.r14] t)) w.heap.size g := by
 constructor
 case lt => simp
 all_goals (simp only [World.cell?]; rw [heap_alloc_new]; rfl)
theorem RB.up {w w' : World} {b : Nat} {g : Grp} (h : RB w b g) (hb : Below w.heap.size w w') : RB w' b g :=
 ⟨(hb.cell (p := ⟨b, 0, none⟩) h.lt).trans h.c0, (hb.cell (p := ⟨b, 1, none⟩) h.lt).trans h.c1, (hb.cell (p := ⟨b, 2, none⟩) h.lt).trans h.c2, (hb.cell (p := ⟨b, 3, none⟩) h.lt).trans h.c3, (hb.cell (p := ⟨b, 4, none⟩) h.lt).trans h.c4, (hb.cell (p := ⟨b, 5, none⟩) h.lt).trans h.c5, (hb.cell (p := ⟨b, 6, none⟩) h.lt).trans h.c6, (hb.cell (p := ⟨b, 7, none⟩) h.lt).trans h.c7, (hb.cell (p := ⟨b, 8, none⟩) h.lt).trans h.c8, (hb.cell (p := ⟨b, 9, none⟩) h.lt).trans h.c9, (hb.cell (p := ⟨b, 10, none⟩) h.lt).trans h.c10, (hb.cell (p := ⟨b, 11, none⟩) h.lt).trans h.c11, (hb.cell (p := ⟨b, 12, none⟩) h.lt).trans h.c12, (hb.cell (p := ⟨b, 13, none⟩) h.lt).trans h.c13, (hb.cell (p := ⟨b, 14, none⟩) h.lt).trans h.c14, Nat.lt_of_lt_of_le h.lt hb.size⟩
theorem there_new (w : World) (C : Array Value) (t : TypeId) : (w.alloc (.cells C t)).there w.heap.size 0 C.size := fun j hj => by
 rw [Nat.zero_add]
 constructor
 ·simp only [World.cell?]; rw [heap_alloc_new]; simp; exact hj
 ·simp only [World.frozen?]; rw [heap_alloc_new]; simp
theorem below_setCells {B : Nat} {w0 : World} {b : Nat} (hb : B ≤ b) : ∀ (vs : List Value) (o : Nat) {w : World}, Below B w0 w → Below B w0 (w.setCells b o vs)
 | [], _, _, h => h
 | v :: r, o, _, h => by
  rw [World.setCells]
  exact below_setCells hb r (o + 1) (Below.setCell (p := ⟨b, o, none⟩) h hb v)
theorem results_cell_mid {P : Program} {fn : Func} {p : Tmp} {ty : TypeId} (h : fn.results = #[.cell p ty]) (tmps : Array Value) (w : World) (b : Nat) (cs : List Value) (d : TypeDesc)
  (hp : tmps.getD p undef = .pointer (some ⟨b, 0, none⟩)) (hc : w.rangeAt b 0 cs) (hu : P.underlying ty = some d) (hd : d.isRow = true) (hi : (P.info? ty).map (·.size) = some cs.length) :
  (results fn tmps).run P w = .ok (.agg cs.toArray) w := by
 have hp' : tmps[p]?.getD undef = .pointer (some ⟨b, 0, none⟩) := by simpa using hp
 simp [results, h, hp', asAddr, run_loadVar_mid w b 0 ty cs d hc hu hd hi]
set_option maxRecDepth 20000 in
set_option maxHeartbeats 1600000 in
theorem rolesof_any (g : Grp) (w : World) : Calls Try.prog 53 #[rolV g] w fun e w' => e = .returned (.agg (rpC g)) ∧ Below w.heap.size w w' := by
 have hB1 := below_alloc_new (w := w) (.cells #[.int .i64 g.r0, .int .i64 g.r1, .int .i64 g.r2, .int .i64 g.r3, .int .i64 g.r4, .int .i64 g.r5, .int .i64 g.r6, .int .i64 g.r7, .int .i64 g.r8, .int .i64 g.r9, .int .i64 g.r10, .int .i64 g.r11, .int .i64 g.r12, .int .i64 g.r13, .int .i64 g.r14] 26)
 have hB := below_new hB1 (.cells #[.string ⟨#[]⟩, .int .i64 0, .int .i64 0, .int .i64 0, .string ⟨#[]⟩, .int .i64 0, .int .i64 0, .int .i64 0, .string ⟨#[]⟩, .int .i64 0, .int .i64 0, .int .i64 0, .string ⟨#[]⟩, .int .i64 0, .int .i64 0, .int .i64 0, .string ⟨#[]⟩, .int .i64 0, .int .i64 0, .int .i64 0, .string ⟨#[]⟩, .int .i64 0, .int .i64 0, .int .i64 0, .string ⟨#[]⟩, .int .i64 0, .int .i64 0, .int .i64 0, .string ⟨#[]⟩, .int .i64 0, .int .i64 0, .int .i64 0, .string ⟨#[]⟩, .int .i64 0, .int .i64 0, .int .i64 0, .string ⟨#[]⟩, .int .i64 0, .int .i64 0, .int .i64 0, .string ⟨#[]⟩, .int .i64 0, .int .i64 0, .int .i64 0, .string ⟨#[]⟩, .int .i64 0, .int .i64 0, .int .i64 0, .string ⟨#[]⟩, .int .i64 0, .int .i64 0, .int .i64 0, .string ⟨#[]⟩, .int .i64 0, .int .i64 0, .int .i64 0, .string ⟨#[]⟩, .int .i64 0, .int .i64 0, .int .i64 0] 99)
 have hR := (rb_new w 26 g).up (below_alloc_new (.cells #[.string ⟨#[]⟩, .int .i64 0, .int .i64 0, .int .i64 0, .string ⟨#[]⟩, .int .i64 0, .int .i64 0, .int .i64 0, .string ⟨#[]⟩, .int .i64 0, .int .i64 0, .int .i64 0, .string ⟨#[]⟩, .int .i64 0, .int .i64 0, .int .i64 0, .string ⟨#[]⟩, .int .i64 0, .int .i64 0, .int .i64 0, .string ⟨#[]⟩, .int .i64 0, .int .i64 0, .int .i64 0, .string ⟨#[]⟩, .int .i64 0, .int .i64 0, .int .i64 0, .string ⟨#[]⟩, .int .i64 0, .int .i64 0, .int .i64 0, .string ⟨#[]⟩, .int .i64 0, .int .i64 0, .int .i64 0, .string ⟨#[]⟩, .int .i64 0, .int .i64 0, .int .i64 0, .string ⟨#[]⟩, .int .i64 0, .int .i64 0, .int .i64 0, .string ⟨#[]⟩, .int .i64 0, .int .i64 0, .int .i64 0, .string ⟨#[]⟩, .int .i64 0, .int .i64 0, .int .i64 0, .string ⟨#[]⟩, .int .i64 0, .int .i64 0, .int .i64 0, .string ⟨#[]⟩, .int .i64 0, .int .i64 0, .int .i64 0] 99))
 have hT := there_new (w.alloc (.cells #[.int .i64 g.r0, .int .i64 g.r1, .int .i64 g.r2, .int .i64 g.r3, .int .i64 g.r4, .int .i64 g.r5, .int .i64 g.r6, .int .i64 g.r7, .int .i64 g.r8, .int .i64 g.r9, .int .i64 g.r10, .int .i64 g.r11, .int .i64 g.r12, .int .i64 g.r13, .int .i64 g.r14] 26)) #[.string ⟨#[]⟩, .int .i64 0, .int .i64 0, .int .i64 0, .string ⟨#[]⟩, .int .i64 0, .int .i64 0, .int .i64 0, .string ⟨#[]⟩, .int .i64 0, .int .i64 0, .int .i64 0, .string ⟨#[]⟩, .int .i64 0, .int .i64 0, .int .i64 0, .string ⟨#[]⟩, .int .i64 0, .int .i64 0, .int .i64 0, .string ⟨#[]⟩, .int .i64 0, .int .i64 0, .int .i64 0, .string ⟨#[]⟩, .int .i64 0, .int .i64 0, .int .i64 0, .string ⟨#[]⟩, .int .i64 0, .int .i64 0, .int .i64 0, .string ⟨#[]⟩, .int .i64 0, .int .i64 0, .int .i64 0, .string ⟨#[]⟩, .int .i64 0, .int .i64 0, .int .i64 0, .string ⟨#[]⟩, .int .i64 0, .int .i64 0, .int .i64 0, .string ⟨#[]⟩, .int .i64 0, .int .i64 0, .int .i64 0, .string ⟨#[]⟩, .int .i64 0, .int .i64 0, .int .i64 0, .string ⟨#[]⟩, .int .i64 0, .int .i64 0, .int .i64 0, .string ⟨#[]⟩, .int .i64 0, .int .i64 0, .int .i64 0] 99
 have e1 : (w.alloc (.cells #[.int .i64 g.r0, .int .i64 g.r1, .int .i64 g.r2, .int .i64 g.r3, .int .i64 g.r4, .int .i64 g.r5, .int .i64 g.r6, .int .i64 g.r7, .int .i64 g.r8, .int .i64 g.r9, .int .i64 g.r10, .int .i64 g.r11, .int .i64 g.r12, .int .i64 g.r13, .int .i64 g.r14] 26)).heap.size = w.heap.size + 1 := by simp
 rw [e1] at hT
 obtain ⟨s0, hs0⟩ : ∃ s0, w.heap.size = s0 := ⟨_, rfl⟩
 rw [hs0] at hB hR hT ⊢
 have hT60 : ((w.alloc (.cells #[.int .i64 g.r0, .int .i64 g.r1, .int .i64 g.r2, .int .i64 g.r3, .int .i64 g.r4, .int .i64 g.r5, .int .i64 g.r6, .int .i64 g.r7, .int .i64 g.r8, .int .i64 g.r9, .int .i64 g.r10, .int .i64 g.r11, .int .i64 g.r12, .int .i64 g.r13, .int .i64 g.r14] 26)).alloc (.cells #[.string ⟨#[]⟩, .int .i64 0, .int .i64 0, .int .i64 0, .string ⟨#[]⟩, .int .i64 0, .int .i64 0, .int .i64 0, .string ⟨#[]⟩, .int .i64 0, .int .i64 0, .int .i64 0, .string ⟨#[]⟩, .int .i64 0, .int .i64 0, .int .i64 0, .string ⟨#[]⟩, .int .i64 0, .int .i64 0, .int .i64 0, .string ⟨#[]⟩, .int .i64 0, .int .i64 0, .int .i64 0, .string ⟨#[]⟩, .int .i64 0, .int .i64 0, .int .i64 0, .string ⟨#[]⟩, .int .i64 0, .int .i64 0, .int .i64 0, .string ⟨#[]⟩, .int .i64 0, .int .i64 0, .int .i64 0, .string ⟨#[]⟩, .int .i64 0, .int .i64 0, .int .i64 0, .string ⟨#[]⟩, .int .i64 0, .int .i64 0, .int .i64 0, .string ⟨#[]⟩, .int .i64 0, .int .i64 0, .int .i64 0, .string ⟨#[]⟩, .int .i64 0, .int .i64 0, .int .i64 0, .string ⟨#[]⟩, .int .i64 0, .int .i64 0, .int .i64 0, .string ⟨#[]⟩, .int .i64 0, .int .i64 0, .int .i64 0] 99)).there (s0 + 1) 0 (rpC g).size := hT
 have HT := Lib.hid hT60
 obtain ⟨c0, c1, c2, c3, c4, c5, c6, c7, c8, c9, c10, c11, c12, c13, c14, rlt⟩ := hR
 clear hB1 e1 hT hT60
 go_enter Try.func53, Try.ntmps53
 go_wp2_with (refine wpList_store_mid rfl 99 _ _ rfl (s0 + 1) 0 (rpC g) rfl rfl HT.out (by kernel_rfl) (by kernel_rfl) ?_)
 exact bodyPost_ret (v := .agg (rpC g)) (results_cell_mid Try.results53 _ _ (s0 + 1) (rpC g).toList _ rfl (World.rangeAt_setCells_same _ _ _ _ HT.out) Try.underlying99 rfl (by kernel_rfl)) rfl ⟨rfl, below_setCells (by omega) _ _ hB⟩
def RolAt (w : World) (t : Nat) (g : Grp) : Prop := t < w.heap.size ∧ w.rangeAt t 0 (rrC g).toList
theorem RolAt.up {w w' : World} {t : Nat} {g : Grp} (h : RolAt w t g) (hb : Below w.heap.size w w') : RolAt w' t g :=
 ⟨Nat.lt_of_lt_of_le h.1 hb.size, fun j v hv => (hb.cell (p := ⟨t, 0 + j, none⟩) h.1).trans (h.2 j v hv)⟩
theorem rol_new (w : World) (t : TypeId) (g : Grp) : RolAt (w.alloc (.cells (rrC g) t)) w.heap.size g :=
 ⟨by simp, fun j v hv => by simp only [World.cell?]; rw [heap_alloc_new, Nat.zero_add]; simpa using hv⟩
theorem RolAt.row {w : World} {t : Nat} {g : Grp} (h : RolAt w t g) {i : Nat} (hi : i < 15) :
  w.cell? ⟨t, 0 + i * 5, none⟩ = some (.string (rlN i)) ∧ w.cell? ⟨t, 0 + i * 5 + 1, none⟩ = some (.int .i64 (g.R.getD i 0)) ∧ w.cell? ⟨t, 0 + i * 5 + 2, none⟩ = some (.int .i64 (rlK i)) ∧ w.cell? ⟨t, 0 + i * 5 + 3, none⟩ = some (.int .i64 (rlB i)) ∧ w.cell? ⟨t, 0 + i * 5 + 4, none⟩ = some (.bool (rlM i)) := by
 have key : ∀ j v, (rrC g).toList[j]? = some v → w.cell? ⟨t, j, none⟩ = some v := fun j v hv => by have := h.2 j v hv; rwa [Nat.zero_add] at this
 match i, hi with
 | 0, _ | 1, _ | 2, _ | 3, _ | 4, _ | 5, _ | 6, _ | 7, _ | 8, _ | 9, _ | 10, _ | 11, _ | 12, _ | 13, _ | 14, _ => exact ⟨key _ _ rfl, key _ _ rfl, key _ _ rfl, key _ _ rfl, key _ _ rfl⟩
set_option maxRecDepth 20000 in
set_option maxHeartbeats 1600000 in
theorem rroles_any (g : Grp) (w : World) : Calls Try.prog 28 #[rolV g] w fun e w' => (∃ t, e = .returned (.slice (some ⟨t, 0, none⟩) 15 15) ∧ RolAt w' t g) ∧ Below w.heap.size w w' := by
 have hB1 := below_alloc_new (w := w) (.cells #[.int .i64 g.r0, .int .i64 g.r1, .int .i64 g.r2, .int .i64 g.r3, .int .i64 g.r4, .int .i64 g.r5, .int .i64 g.r6, .int .i64 g.r7, .int .i64 g.r8, .int .i64 g.r9, .int .i64 g.r10, .int .i64 g.r11, .int .i64 g.r12, .int .i64 g.r13, .int .i64 g.r14] 26)
 have hB := below_new hB1 (.cells (rrC g) 77)
 have hR := rb_new w 26 g
 have hT := rol_new (w.alloc (.cells #[.int .i64 g.r0, .int .i64 g.r1, .int .i64 g.r2, .int .i64 g.r3, .int .i64 g.r4, .int .i64 g.r5, .int .i64 g.r6, .int .i64 g.r7, .int .i64 g.r8, .int .i64 g.r9, .int .i64 g.r10, .int .i64 g.r11, .int .i64 g.r12, .int .i64 g.r13, .int .i64 g.r14] 26)) 77 g
 have e1 : (w.alloc (.cells #[.int .i64 g.r0, .int .i64 g.r1, .int .i64 g.r2, .int .i64 g.r3, .int .i64 g.r4, .int .i64 g.r5, .int .i64 g.r6, .int .i64 g.r7, .int .i64 g.r8, .int .i64 g.r9, .int .i64 g.r10, .int .i64 g.r11, .int .i64 g.r12, .int .i64 g.r13, .int .i64 g.r14] 26)).heap.size = w.heap.size + 1 := by simp
 rw [e1] at hT
 obtain ⟨s0, hs0⟩ : ∃ s0, w.heap.size = s0 := ⟨_, rfl⟩
 rw [hs0] at hB hR hT ⊢
 have HT := Lib.hid hT
 have HB := Lib.hid hB
 obtain ⟨c0, c1, c2, c3, c4, c5, c6, c7, c8, c9, c10, c11, c12, c13, c14, rlt⟩ := hR
 clear hB1 e1 hT hB
 go_enter Try.func28, Try.ntmps28
 go_wp2_with fail
 go_ret
 exact ⟨⟨_, rfl, HT.out⟩, HB.out⟩
end Go.Proofs.Ytaeccljkmijpaaa
namespace Go.Proofs.Ytaeccljkmijpaaa.AK
open Go Go.RowKit
open Go.Proofs.Ytaeccljkmijpaaa.AS (edgesOk needsOk onceOk waits2 limOk allWritten allocsOk aOk Apart Written Written.more getD_flag)
variable {Rp Kp : World → World → Prop}
section
variable {ops : Array Oper} {ds st lm ln al : List Nat} {js pt : List (List Nat)}
end
open Go.Proofs.Ytaeccljkmijpaaa (fillL upd fillL_size fillL_get fillL_upd fillL_self filter_less none_listed put_fill)
structure Fact (Kp : World → World → Prop) where
 p : Value → World → Prop
 st : ∀ v w w', Kp w w' → p v w → p v w'
section
variable {P : Program} {ops : Array Oper} {Q : Exit → Act → World → Prop} {FL : List (Nat × Fact Kp)} {J : Nat → List Value → World → Prop} {t0 : Array Value} {df : List Deferred} {ds : List Nat}
 {st lm ln al : List Nat} {js : List (List Nat)} {pt : List (List Nat)}
end
end Go.Proofs.Ytaeccljkmijpaaa.AK
namespace Go.Proofs.Ytaeccljkmijpaaa
open Go.RowKit
structure Only (S : Nat → Prop) (w w' : World) : Prop where
 os : w'.os = w.os
 tape : w'.tape = w.tape
 output : w'.output = w.output
 size : w.heap.size ≤ w'.heap.size
 blk : ∀ k, k < w.heap.size → ¬ S k → w'.heap[k]? = w.heap[k]?
section
variable {S T : Nat → Prop} {w w' w2 : World} {B b : Nat}
theorem Only.refl (w : World) : Only S w w := ⟨rfl, rfl, rfl, Nat.le_refl _, fun _ _ _ => rfl⟩
theorem Only.trans (h : Only S w w') (k : Only S w' w2) : Only S w w2 :=
 ⟨k.os.trans h.os, k.tape.trans h.tape, k.output.trans h.output, Nat.le_trans h.size k.size, fun i hi hs => (k.blk i (Nat.lt_of_lt_of_le hi h.size) hs).trans (h.blk i hi hs)⟩
theorem Only.of (h : Below w.heap.size w w') : Only S w w' := ⟨h.os, h.tape, h.output, h.size, fun k hk _ => h.block k hk⟩
theorem Only.setCell (w : World) {a : Addr} (ha : S a.block) (v : Value) : Only S w (w.setCell a v) :=
 ⟨rfl, rfl, rfl, by simp [World.setCell], fun k _ hs => Below.heap_setCell _ _ _ _ (fun e => hs (e ▸ ha))⟩
theorem Only.setCells {b : Nat} (hb : S b) : ∀ (vs : List Value) (o : Nat) (w : World), Only S w (w.setCells b o vs)
 | [], _, w => Only.refl w
 | v :: r, o, w => by
  rw [World.setCells]
  exact (Only.setCell w (a := ⟨b, o, none⟩) hb v).trans (Only.setCells hb r (o + 1) _)
theorem Only.grown {row : Option Nat} (h : w.grownBy w' row) (hr : ∀ k, row = some k → S k) : Only S w w' :=
 ⟨h.os, h.tape, h.output, h.size, fun k hk hs => h.block k hk (fun e => hs (hr k e.symm))⟩
theorem Only.below (h : Only S w w') (hS : ∀ k, S k → B ≤ k) (hB : B ≤ w.heap.size) : Below B w w' :=
 ⟨h.os, h.tape, h.output, h.size, fun k hk => h.blk k (by omega) (fun hs => by have := hS k hs; omega)⟩
end
structure Wh (t : TypeId) (w : World) (b : Nat) (cs : List Value) : Prop where
 blk : w.heap[b]? = some (.cells cs.toArray t (0, 0))
section
variable {t : TypeId} {w w' : World} {b : Nat} {cs : List Value}
theorem Wh.lt (h : Wh t w b cs) : b < w.heap.size := by
 rcases Nat.lt_or_ge b w.heap.size with hlt | hge
 ·exact hlt
 ·have := h.blk; rw [Array.getElem?_eq_none hge] at this; cases this
theorem Wh.cell (h : Wh t w b cs) (i : Nat) : w.cell? ⟨b, i, none⟩ = cs[i]? := by simp [World.cell?, h.blk]
theorem Wh.at (h : Wh t w b cs) (i : Nat) (v : Value) (hv : cs[i]? = some v) : w.cell? ⟨b, i, none⟩ = some v := (h.cell i).trans hv
theorem Wh.frozen (h : Wh t w b cs) (i : Nat) : w.frozen? ⟨b, i, none⟩ = false := by simp [World.frozen?, h.blk]
theorem Wh.rg (h : Wh t w b cs) : Rg w b cs := ⟨fun j v hj => h.at j v hj, h.lt⟩
theorem Wh.range (h : Wh t w b cs) : w.rangeAt b 0 cs := fun j v hv => by rw [Nat.zero_add]; exact h.at j v hv
theorem Wh.there (h : Wh t w b cs) {o n : Nat} (hn : o + n ≤ cs.length) : w.there b o n := fun j hj => by
 constructor
 ·rw [h.cell, List.getElem?_eq_getElem (by omega)]; rfl
 ·exact h.frozen _
theorem Wh.same (h : Wh t w b cs) (hk : w'.heap[b]? = w.heap[b]?) : Wh t w' b cs := ⟨hk.trans h.blk⟩
theorem Wh.up (h : Wh t w b cs) (hb : Below w.heap.size w w') : Wh t w' b cs := h.same (hb.block b h.lt)
theorem Wh.only {S : Nat → Prop} (h : Wh t w b cs) (hb : Only S w w') (hs : ¬ S b) : Wh t w' b cs := h.same (hb.blk b h.lt hs)
theorem Wh.new (w : World) (t : TypeId) (cs : List Value) : Wh t (w.alloc (.cells cs.toArray t)) w.heap.size cs := ⟨heap_alloc_new w _⟩
theorem Wh.set (h : Wh t w b cs) (i : Nat) (v : Value) : Wh t (w.setCell ⟨b, i, none⟩ v) b (cs.set i v) := by
 refine ⟨?_⟩
 simp [World.setCell, Array.getElem?_modify, h.blk]
theorem Wh.sets : ∀ (vs : List Value) {w : World} {xs ys zs : List Value}, Wh t w b (xs ++ ys ++ zs) → vs.length = ys.length → Wh t (w.setCells b xs.length vs) b (xs ++ vs ++ zs)
 | [], w, xs, ys, zs, h, hl => by
  obtain rfl : ys = [] := List.eq_nil_of_length_eq_zero hl.symm
  exact h
 | v :: vs, w, xs, [], zs, h, hl => by simp at hl
 | v :: vs, w, xs, y :: ys, zs, h, hl => by
  rw [World.setCells]
  have h1 := h.set xs.length v
  have e1 : (xs ++ (y :: ys) ++ zs).set xs.length v = (xs ++ [v]) ++ ys ++ zs := by simp
  rw [e1] at h1
  have h2 := Wh.sets vs h1 (by simpa using hl)
  have e2 : (xs ++ [v]).length = xs.length + 1 := by simp
  rw [e2] at h2
  simpa using h2
theorem Wh.put (h : Wh t w b cs) (vs : List Value) (hl : vs.length = cs.length) : Wh t (w.setCells b 0 vs) b vs := by
 have h1 := Wh.sets (xs := []) (ys := cs) (zs := []) vs (by simpa using h) hl
 simpa using h1
end
theorem wpList_store_wh {P : Program} {ops : Array Oper} {rest : List Oper} {o : Oper} {a : Act} {w : World} {Q : Exit → Act → World → Prop} (hg : o.guard = none) (ty : TypeId) (x y : Operand) (hop : o.op = .store ty x y)
  (b : Nat) (hx : a.eval x = .pointer (some ⟨b, 0, none⟩)) (t : TypeId) (cs vs : List Value) (hy : a.eval y = .agg vs.toArray) (hw : Wh t w b cs) (hl : vs.length = cs.length)
  (hi : (P.info? ty).map (·.size) = some vs.toArray.size) (h1 : vs.toArray.all (·.oneCell') = true)
  (h : ∀ W, Hid (Wh t W b vs) → Hid (Only (fun k => k = b) w W) → W.heap.size = w.heap.size → wpList P ops Q rest (a.put o.dst undef) W) : wpList P ops Q (o :: rest) a w :=
 wpList_store_mid hg ty x y hop b 0 vs.toArray hx hy (hw.there (by simp [hl])) hi h1 (h _ (Lib.hid (hw.put vs hl)) (Lib.hid (Only.setCells (S := fun k => k = b) rfl vs 0 w)) (by
  have : ∀ (vs : List Value) (o : Nat) (w : World), (w.setCells b o vs).heap.size = w.heap.size := by
   intro vs
   induction vs with
   | nil => intro o w; rfl
   | cons v r ih => intro o w; rw [World.setCells, ih]; exact World.size_setCell _ _ _
  exact this _ _ _))
theorem only_new {w W : World} {o : Obj} (h : Only (fun k => k = w.heap.size) (w.alloc o) W) : Below w.heap.size w W :=
 (below_alloc_new o).trans (h.below (B := w.heap.size) (fun k hk => Nat.le_of_eq hk.symm) (by simp))
open Go.RowKit Go.Maps
set_option maxRecDepth 100000 in
theorem lk_keyed : Keyed Try.prog 65 := Keyed.of_law (deep_law_gate laid_out (by decide +kernel) (by decide +kernel) (by kernel_rfl) (by kernel_rfl))
set_option maxRecDepth 100000 in
theorem lk_lits (n : Nat) (cs : List Value) : Try.prog.keyLits (n + 1) 65 cs = if cs.length = 2 then (do let a ← Try.prog.keyLits n 3 ((cs.drop 0).take 1); let b ← Try.prog.keyLits n 3 ((cs.drop 1).take 1); some (a ++ b)) else none := by
 have hc : Try.prog.cellsOf 65 = 2 := by kernel_rfl
 have hc3 : Try.prog.cellsOf 3 = 1 := by kernel_rfl
 conv => lhs; unfold Program.keyLits
 rw [Try.underlying65]
 simp [hc, hc3]
 split
 ·cases Try.prog.keyLits n 3 (List.take 1 cs) <;> cases Try.prog.keyLits n 3 (List.take 1 cs.tail) <;> simp
 ·rfl
set_option maxRecDepth 100000 in
theorem lk_int {n : Nat} {a : Int} (h : (Lit.int .i64 a).wf = true) : Try.prog.keyLits (n + 1) 3 [.int .i64 a] = some [.int .i64 a] := by
 unfold Program.keyLits
 rw [Try.underlying3]
 simp [h]
set_option maxRecDepth 100000 in
theorem lk_key {k : Int × Int} (h : okK k) : keyOf Try.prog 65 (pairV k) = some (klit k) := by
 have hf : Value.formed Try.prog 65 (pairV k) = true := by
  have hc : Try.prog.cellsOf 65 = 2 := by kernel_rfl
  simp [Value.formed, Try.underlying65, hc]
 have hk : Try.prog.keyType 65 = true := by kernel_rfl
 have h1 : 1 ≤ Try.prog.types.size := by decide +kernel
 obtain ⟨n, hn⟩ : ∃ n, Try.prog.types.size + 1 = n + 2 := ⟨Try.prog.types.size - 1, by omega⟩
 unfold keyOf
 rw [Try.underlying65]
 simp only [hk, hf, Bool.and_self, if_true]
 rw [hn]
 show Option.map _ (Try.prog.keyLits (n + 2) 65 [.int .i64 k.1, .int .i64 k.2]) = _
 rw [lk_lits]
 simp [lk_int h.1, lk_int h.2]
 rfl
theorem lk_inj {a b : Int × Int} (ha : okK a) (hb : okK b) (h : klit a = klit b) : a = b := by
 have h1 := lk_key ha
 rw [h] at h1
 have h2 := lk_keyed.inj h1 (lk_key hb)
 simp at h2
 exact Prod.ext h2.1 h2.2
def MapS (w : World) (b n : Nat) (S : Int × Int → Bool) : Prop := ∃ D : DataW Value, w.ownsMap Try.prog 65 heldP b n D ∧ (∀ k, okK k → Maps.has D (klit k) = S k ∧ ∀ z, D.atKey (klit k) z = if S k = true then .held (.bool true) else z) ∧ ∀ k, S k = true → okK k
section
variable {w w' : World} {b n m : Nat} {S : Int × Int → Bool}
theorem MapS.blk (h : MapS w b n S) (hk : w'.heap[b]? = w.heap[b]?) : MapS w' b n S := by
 obtain ⟨D, ⟨es, clock, hb, rest⟩, h2⟩ := h
 exact ⟨D, ⟨es, clock, hk.trans hb, rest⟩, h2⟩
theorem MapS.lt (h : MapS w b n S) : b < w.heap.size := by
 obtain ⟨D, h1, _⟩ := h
 exact h1.lt
theorem MapS.isMap (h : MapS w b n S) : ∃ es k, w.heap[b]? = some (.map es k) := by
 obtain ⟨D, ⟨es, clock, hb, _⟩, _⟩ := h
 exact ⟨es, clock, hb⟩
theorem MapS.up (h : MapS w b n S) (hb : Below w.heap.size w w') : MapS w' b n S := h.blk (hb.block b h.lt)
theorem MapS.mono (h : MapS w b n S) (hm : n ≤ m) : MapS w b m S := by
 obtain ⟨D, h1, h2⟩ := h
 exact ⟨D, h1.mono hm, h2⟩
theorem MapS.made (w : World) : MapS (w.alloc (.map #[] 0)) w.heap.size 0 (fun _ => false) :=
 ⟨.map [], World.ownsMap_made _ _ _ _, fun _ _ => ⟨rfl, fun _ => rfl⟩, fun _ h => by cases h⟩
theorem MapS.ext {T : Int × Int → Bool} (h : MapS w b n S) (hg : ∀ c, T c = S c) : MapS w b n T := by
 obtain rfl : T = S := funext hg
 exact h
set_option maxRecDepth 100000 in
theorem MapS.look (h : MapS w b n S) {k : Int × Int} (hk : okK k) : (Instr.lookup 57 (.map (some b)) (pairV k) false).run Try.prog w = .ok (.bool (S k)) w := by
 obtain ⟨D, h1, h3, _⟩ := h
 obtain ⟨v, ps, hrun, hv⟩ := h1.lookup lk_keyed Try.underlying57 (z := .bool false) (Try.zeroValue4 w) (zd := .held (.bool false)) (zp := []) rfl (lk_key hk)
 have he : v = .bool (S k) := by
  rw [(h3 k hk).2] at hv
  simp only [heldP, Option.some.injEq, Prod.mk.injEq] at hv
  have h4 := hv.1
  cases hf : S k with
  | false => rw [hf] at h4; simpa using h4
  | true => rw [hf] at h4; simpa using h4
 rw [hrun, he]
set_option maxRecDepth 100000 in
theorem MapS.put (h : MapS w b n S) {k : Int × Int} (hk : okK k) (hn : n ≤ 1000000) : ∃ W, (Instr.mapUpdate 57 (.map (some b)) (pairV k) (.bool true)).run Try.prog w = .ok () W ∧ MapS W b (n + 1) (fun q => decide (q = k) || S q) ∧ Only (fun j => j = b) w W := by
 obtain ⟨D, h1, h3, h4⟩ := h
 have h2 := h1.isMap
 obtain ⟨W, hrun, o2, g2⟩ := h1.store (R := heldP) (val := .bool true) (d := .held (.bool true)) (ps := []) lk_keyed Try.underlying57 (by unfold maxLen; omega) (lk_key hk) rfl
 refine ⟨W, hrun, ⟨_, o2, fun q hq => ?_, fun q hq => ?_⟩, Only.grown g2.grown (fun j e => by cases e; rfl)⟩
 ·by_cases hqk : q = k
  ·subst hqk
   rw [has_put_same h2 (lk_keyed.key (lk_key hk))]
   exact ⟨by simp, fun z => by rw [atKey_put_same h2 (lk_keyed.key (lk_key hk))]; simp⟩
  ·have hne : klit q ≠ klit k := fun e => hqk (lk_inj hq hk e)
   rw [has_put_other hne]
   exact ⟨by simp [hqk, (h3 q hq).1], fun z => by rw [atKey_put_other hne]; simp [hqk, (h3 q hq).2]⟩
 ·by_cases hqk : q = k
  ·subst hqk; exact hk
  ·simp [hqk] at hq
   exact h4 q hq
set_option maxRecDepth 100000 in
theorem wpList_maps_put {ops : Array Oper} {rest : List Oper} {o : Oper} {a : Act} {Q : Exit → Act → World → Prop} (hg : o.guard = none) (m x y : Operand) (hop : o.op = Op.mapUpdate 57 m x y)
  (hm : a.eval m = .map (some b)) (hs : MapS w b n S) {k : Int × Int} (hx : a.eval x = pairV k) (hy : a.eval y = .bool true) (hk : okK k) (hn : n ≤ 1000000)
  (hK : ∀ W, Hid (MapS W b (n + 1) (fun q => decide (q = k) || S q)) → Hid (Only (fun j => j = b) w W) → wpList Try.prog ops Q rest (a.put o.dst undef) W) : wpList Try.prog ops Q (o :: rest) a w := by
 refine wpList_plain hg fun K' hK' => ?_
 obtain ⟨W, hrun, r1, r2⟩ := hs.put hk hn
 unfold Oper.wp
 simp [execOp, hop, hm, hx, hy, hrun, Result.andThen]
 exact hK' _ _ (hK W (Lib.hid r1) (Lib.hid r2))
set_option maxRecDepth 100000 in
theorem wpList_maps_del {ops : Array Oper} {rest : List Oper} {o : Oper} {a : Act} {Q : Exit → Act → World → Prop} (hg : o.guard = none) (m x : Operand) (hop : o.op = Op.call { callee := Callee.builtin Builtin.delete, args := #[m, x], argTypes := #[57, 65] })
  (hm : a.eval m = .map (some b)) (hs : MapS w b n S) {k : Int × Int} (hx : a.eval x = pairV k) (hk : okK k)
  (hK : ∀ W, Hid (MapS W b n (fun q => !decide (q = k) && S q)) → Hid (Only (fun j => j = b) w W) → wpList Try.prog ops Q rest (a.put o.dst (.tuple #[])) W) : wpList Try.prog ops Q (o :: rest) a w := by
 obtain ⟨D, h1, h3, h4⟩ := hs
 refine wpList_delete_own w hg m x _ _ hop 4 lk_keyed Try.underlying57 heldP b n D hm h1 _ _ hx (lk_key hk) ?_
 intro W o2 g2
 refine hK W (Lib.hid ⟨_, o2, fun q hq => ?_, fun q hq => ?_⟩) (Lib.hid (Only.grown g2.grown (fun j e => by cases e; rfl)))
 ·by_cases hqk : q = k
  ·subst hqk
   rw [has_del_same]
   exact ⟨by simp, fun z => by rw [atKey_del_same]; simp⟩
  ·have hne : klit q ≠ klit k := fun e => hqk (lk_inj hq hk e)
   rw [has_del_other hne]
   exact ⟨by simp [hqk, (h3 q hq).1], fun z => by rw [atKey_del_other hne]; simp [hqk, (h3 q hq).2]⟩
 ·by_cases hqk : q = k
  ·subst hqk; exact hk
  ·simp [hqk] at hq
   exact h4 q hq
end
open Go.RowKit
structure Tri (w : World) (g : Nat) (y m k : Int) : Prop where
 c0 : w.cell? ⟨g, 0, none⟩ = some (.int .i64 y)
 c1 : w.cell? ⟨g, 1, none⟩ = some (.int .i64 m)
 c2 : w.cell? ⟨g, 2, none⟩ = some (.int .i64 k)
 lt : g < w.heap.size
theorem Tri.up {w w' : World} {g : Nat} {y m k : Int} (h : Tri w g y m k) (hb : Below w.heap.size w w') : Tri w' g y m k :=
 ⟨(hb.cell (p := ⟨g, 0, none⟩) h.lt).trans h.c0, (hb.cell (p := ⟨g, 1, none⟩) h.lt).trans h.c1, (hb.cell (p := ⟨g, 2, none⟩) h.lt).trans h.c2, Nat.lt_of_lt_of_le h.lt hb.size⟩
theorem tri_new (w : World) (t : TypeId) (y m k : Int) : Tri (w.alloc (.cells #[.int .i64 y, .int .i64 m, .int .i64 k] t)) w.heap.size y m k ∧ Below w.heap.size w (w.alloc (.cells #[.int .i64 y, .int .i64 m, .int .i64 k] t)) := by
 refine ⟨⟨?_, ?_, ?_, by simp⟩, below_alloc_new _⟩ <;> (simp only [World.cell?]; rw [heap_alloc_new]; rfl)
abbrev calV (y m k : Int) : Value := .agg #[.int .i64 y, .int .i64 m, .int .i64 k]
theorem fiE_b (y m p : Int) : (fiE y m p == 0) = fiB y m p := by
 unfold fiE
 cases fiB y m p <;> rfl
theorem pd_in {y m k p : Int} (h : clV y m k = true) (hp : 0 ≤ p ∧ p < k) : clE y m k p = 0 ∧ pdF y m k p = mfst (mno y m + p) ∧ pdL y m k p = mfst (mno y m + p + 1) - 1 ∧ pdY y m k p = p / 12 ∧ pdB y m k p = mfst (mno y m + p - p % 12) := by
 unfold pdF pdL pdY pdB
 rw [clE_in h hp]
 exact ⟨rfl, rfl, rfl, rfl, rfl⟩
theorem pd_out {y m k p : Int} (h : clE y m k p ≠ 0) : pdF y m k p = 0 ∧ pdL y m k p = 0 ∧ pdY y m k p = 0 ∧ pdB y m k p = 0 ∧ pdP y m k p = 0 ∧ pdPE y m k p = clE y m k p ∧ pdT y m k p = ⟨#[]⟩ := by
 unfold pdF pdL pdY pdB pdP pdPE pdT
 simp [h]
theorem clE_yes {y m k p : Int} (he : clE y m k p = 0) : clV y m k = true ∧ (0 ≤ p ∧ p < k) := by
 rcases clE_three y m k p with ⟨hv, h⟩ | ⟨hv, hp, h⟩ | ⟨hv, hp, h⟩
 ·rw [he] at h; exact absurd h (by decide)
 ·rw [he] at h; exact absurd h (by decide)
 ·exact ⟨hv, hp⟩
theorem cl_k {y m k : Int} (h : clV y m k = true) : 1 ≤ k ∧ k ≤ 120 := (clV_iff.1 h).1
theorem rfi_any (y m k p : Int) (w : World) : Calls Try.prog 39 #[calV y m k, .int .i64 p] w fun e w' => e = .returned (.tuple #[.int .i64 (fiN y m p), .int .i64 (fiE y m p)]) ∧ Below w.heap.size w w' := by
 obtain ⟨tn, bn⟩ := tri_new w 23 y m k
 have HT := Lib.hid tn
 obtain ⟨c0, c1, c2, lt⟩ := tn
 cases hi : inYM y m
 ·obtain ⟨e1, e2, e3, e4⟩ := fi_none p hi
  rw [e3, e4]
  have h1 := fun w => dtrof_any y m 1 w
  rw [e1, e2] at h1
  have H1 := Lib.hid h1
  clear h1 hi e1 e2 e3 e4
  go_enter Try.func39, Try.ntmps39
  go_wp2_with (go_at_call 56; refine (H1.out _).mono ?_; rintro e w' ⟨rfl, rfl⟩)
  go_ret2
  exact ⟨rfl, bn⟩
 ·obtain ⟨e1, e2, e3, e4⟩ := fi_some p hi
  have h1 := fun w => dtrof_any y m 1 w
  rw [e1, e2] at h1
  have h2 := fun w => dtradd_any (mfst (mno y m)) p w
  rw [e3, e4] at h2
  have H1 := Lib.hid h1
  have H2 := Lib.hid h2
  clear h1 h2 hi e1 e2 e3 e4
  go_enter Try.func39, Try.ntmps39
  go_wp2_with (first | (go_at_call 56; refine (H1.out _).mono ?_; rintro e w' ⟨rfl, rfl⟩) | (go_at_call 57; refine (H2.out _).mono ?_; rintro e w' ⟨rfl, rfl⟩))
  go_ret2
  exact ⟨rfl, bn⟩
theorem rvalid7_any (y m k : Int) (w : World) : Calls Try.prog 25 #[calV y m k] w fun e w' => e = .returned (.bool (clV y m k)) ∧ Below w.heap.size w w' := by
 obtain ⟨tn, bn⟩ := tri_new w 23 y m k
 have HT := Lib.hid tn
 obtain ⟨c0, c1, c2, lt⟩ := tn
 unfold clV
 by_cases h1 : 1 ≤ k
 ·by_cases h2 : k ≤ 120
  ·have h3 := fun w => rfi_any y m k (k - 1) w
   rw [decide_eq_true h1, decide_eq_true h2, ← fiE_b]
   have h1' : decide (k < 1) = false := decide_eq_false (by omega)
   have h2' : decide (120 < k) = false := decide_eq_false (by omega)
   generalize fiN y m (k - 1) = a at *
   generalize fiE y m (k - 1) = b at *
   have H3 := Lib.hid h3
   clear h3
   go_enter Try.func25, Try.ntmps25
   go_wp2_with (go_at_call 39; refine (H3.out _).mono ?_; rintro e w' ⟨rfl, hb⟩; replace bn := below_more bn hb; replace HT := Lib.hid (HT.out.up hb); clear c0 c1 c2 lt hb; obtain ⟨c0, c1, c2, lt⟩ := HT.out)
   go_ret
   exact ⟨dret_bool (by simp), bn⟩
  ·rw [decide_eq_true h1, decide_eq_false h2]
   have h1' : decide (k < 1) = false := decide_eq_false (by omega)
   have h2' : 120 < k := by omega
   clear h2
   go_enter Try.func25, Try.ntmps25
   go_wp2_with fail
   go_ret
   exact ⟨rfl, bn⟩
 ·rw [decide_eq_false h1]
  have h1' : k < 1 := by omega
  clear h1
  go_enter Try.func25, Try.ntmps25
  go_wp2_with fail
  go_ret
  exact ⟨rfl, bn⟩
theorem cnum7_any (y m : Int) (w : World) (hy : 1900 ≤ y ∧ y ≤ 2199 ∧ 1 ≤ m ∧ m ≤ 12) : Calls Try.prog 59 #[.int .i64 y, .int .i64 m] w fun e w' => e = .returned (.int .i64 (mno y m)) ∧ w = w' := by
 obtain ⟨y0, y1, m0, m1⟩ := hy
 unfold mno
 go_enter Try.func59, Try.ntmps59
 go_wp2_with fail
 go_ret
 exact ⟨rfl, rfl⟩
theorem cciv7_any (T : Int) (w : World) (h : 0 ≤ T ∧ T ≤ 100000) : Calls Try.prog 46 #[.int .i64 T] w fun e w' => e = .returned (.tuple #[.int .i64 (T / 12), .int .i64 (T % 12 + 1)]) ∧ w = w' := by
 obtain ⟨h0, h1⟩ := h
 go_enter Try.func46, Try.ntmps46
 go_wp2_with fail
 go_ret2
 exact ⟨rfl, rfl⟩
theorem cmon7_any (y m k p : Int) (w : World) (hy : 1900 ≤ y ∧ y ≤ 2199 ∧ 1 ≤ m ∧ m ≤ 12) (hp : -1000 ≤ p ∧ p ≤ 1000) : Calls Try.prog 47 #[calV y m k, .int .i64 p] w fun e w' => e = .returned (.int .i64 (mno y m + p)) ∧ Below w.heap.size w w' := by
 obtain ⟨tn, bn⟩ := tri_new w 23 y m k
 have HT := Lib.hid tn
 obtain ⟨c0, c1, c2, lt⟩ := tn
 have h1 := fun w => cnum7_any y m w hy
 have hb : 22800 ≤ mno y m ∧ mno y m ≤ 26399 := by unfold mno; omega
 have H1 := Lib.hid h1
 generalize mno y m = N at *
 obtain ⟨b0, b1⟩ := hb
 obtain ⟨p0, p1⟩ := hp
 clear h1 hy
 go_enter Try.func47, Try.ntmps47
 go_wp2_with (go_at_call 59; refine (H1.out _).mono ?_; rintro e w' ⟨rfl, rfl⟩)
 go_ret
 exact ⟨rfl, bn⟩
theorem cisp7_any (y m k p : Int) (w : World) : Calls Try.prog 58 #[calV y m k, .int .i64 p] w fun e w' => e = .returned (.bool (decide (0 ≤ p) && decide (p < k))) ∧ Below w.heap.size w w' := by
 obtain ⟨tn, bn⟩ := tri_new w 23 y m k
 have HT := Lib.hid tn
 obtain ⟨c0, c1, c2, lt⟩ := tn
 by_cases h0 : 0 ≤ p
 ·rw [decide_eq_true h0]
  go_enter Try.func58, Try.ntmps58
  go_wp2_with fail
  go_ret
  exact ⟨rfl, bn⟩
 ·rw [decide_eq_false h0]
  have h0' : p < 0 := by omega
  clear h0
  go_enter Try.func58, Try.ntmps58
  go_wp2_with fail
  go_ret
  exact ⟨rfl, bn⟩
theorem cvalid7_any (y m k : Int) (w : World) : Calls Try.prog 35 #[calV y m k] w fun e w' => e = .returned (.bool (clV y m k)) ∧ Below w.heap.size w w' := by
 obtain ⟨tn, bn⟩ := tri_new w 23 y m k
 have HT := Lib.hid tn
 obtain ⟨c0, c1, c2, lt⟩ := tn
 have h1 := fun w => days_any y m w
 unfold clV fiB
 cases hi : inYM y m
 ·rw [dys_out hi] at h1
  rw [Bool.false_and, Bool.and_false, Bool.and_false]
  have H1 := Lib.hid h1
  clear h1 hi
  go_enter Try.func35, Try.ntmps35
  go_wp2_with (go_at_call 49; refine (H1.out _).mono ?_; rintro e w' ⟨rfl, hb⟩; replace bn := below_more bn hb; replace HT := Lib.hid (HT.out.up hb); clear c0 c1 c2 lt hb; obtain ⟨c0, c1, c2, lt⟩ := HT.out)
  go_ret
  exact ⟨rfl, bn⟩
 ·obtain ⟨y0, y1, m0, m1⟩ := inYM_iff.1 hi
  have hd := mdy_bd y m
  rw [dys_in hi] at h1
  have hne : (mdy y m == 0) = false := by rw [beq_eq_false_iff_ne]; omega
  generalize mdy y m = dd at *
  have H1 := Lib.hid h1
  clear h1
  by_cases k0 : 1 ≤ k
  ·by_cases k1 : k ≤ 120
   ·have h2 := fun w => cmon7_any y m k (k - 1) w ⟨y0, y1, m0, m1⟩ (by omega)
    have e0 : mno y m = 12 * y + m - 1 := rfl
    have h3 := fun w => cciv7_any (mno y m + (k - 1)) w (by omega)
    have h4 := fun w => days_any ((mno y m + (k - 1)) / 12) ((mno y m + (k - 1)) % 12 + 1) w
    rw [decide_eq_true k0, decide_eq_true k1, Bool.true_and, Bool.true_and, Bool.true_and, decide_eq_true (show 22800 ≤ mno y m + (k - 1) by omega), Bool.true_and]
    have k0' : decide (k < 1) = false := decide_eq_false (by omega)
    have k1' : decide (120 < k) = false := decide_eq_false (by omega)
    have ht : decide (0 < dys ((mno y m + (k - 1)) / 12) ((mno y m + (k - 1)) % 12 + 1)) = decide (mno y m + (k - 1) ≤ 26399) := by
     cases hj : inYM ((mno y m + (k - 1)) / 12) ((mno y m + (k - 1)) % 12 + 1)
     ·rw [dys_out hj]
      have : ¬ (mno y m + (k - 1) ≤ 26399) := fun hc => by rw [inYM_iff.2 ⟨by omega, by omega, by omega, by omega⟩] at hj; cases hj
      rw [decide_eq_false this]; rfl
     ·have h5 := inYM_iff.1 hj
      have h6 := mdy_bd ((mno y m + (k - 1)) / 12) ((mno y m + (k - 1)) % 12 + 1)
      rw [dys_in hj, decide_eq_true (show mno y m + (k - 1) ≤ 26399 by omega), decide_eq_true (by omega)]
    rw [← ht]
    clear ht e0
    generalize dys ((mno y m + (k - 1)) / 12) ((mno y m + (k - 1)) % 12 + 1) = d2 at *
    generalize mno y m + (k - 1) = T at *
    have H2 := Lib.hid h2
    have H3 := Lib.hid h3
    have H4 := Lib.hid h4
    generalize T % 12 + 1 = b2 at *
    generalize T / 12 = a2 at *
    clear h2 h3 h4 hi y0 y1 m0 m1
    go_enter Try.func35, Try.ntmps35
    go_wp2_with (first | (go_at_call 49; first | (with_reducible refine (H1.out _).mono ?_; rintro e w' ⟨rfl, hb⟩; replace bn := below_more bn hb; replace HT := Lib.hid (HT.out.up hb); clear c0 c1 c2 lt hb; obtain ⟨c0, c1, c2, lt⟩ := HT.out) | (with_reducible refine (H4.out _).mono ?_; rintro e w' ⟨rfl, hb⟩; replace bn := below_more bn hb; replace HT := Lib.hid (HT.out.up hb); clear c0 c1 c2 lt hb; obtain ⟨c0, c1, c2, lt⟩ := HT.out)) | (go_at_call 47; refine (H2.out _).mono ?_; rintro e w' ⟨rfl, hb⟩; replace bn := below_more bn hb; replace HT := Lib.hid (HT.out.up hb); clear c0 c1 c2 lt hb; obtain ⟨c0, c1, c2, lt⟩ := HT.out) | (go_at_call 46; refine (H3.out _).mono ?_; rintro e w' ⟨rfl, rfl⟩))
    go_ret
    exact ⟨rfl, bn⟩
   ·rw [decide_eq_true k0, decide_eq_false k1]
    have k0' : decide (k < 1) = false := decide_eq_false (by omega)
    have k1' : 120 < k := by omega
    clear k1 hi y0 y1 m0 m1
    go_enter Try.func35, Try.ntmps35
    go_wp2_with (go_at_call 49; refine (H1.out _).mono ?_; rintro e w' ⟨rfl, hb⟩; replace bn := below_more bn hb; replace HT := Lib.hid (HT.out.up hb); clear c0 c1 c2 lt hb; obtain ⟨c0, c1, c2, lt⟩ := HT.out)
    go_ret
    exact ⟨rfl, bn⟩
  ·rw [decide_eq_false k0]
   have k0' : k < 1 := by omega
   clear k0 hi y0 y1 m0 m1
   go_enter Try.func35, Try.ntmps35
   go_wp2_with (go_at_call 49; refine (H1.out _).mono ?_; rintro e w' ⟨rfl, hb⟩; replace bn := below_more bn hb; replace HT := Lib.hid (HT.out.up hb); clear c0 c1 c2 lt hb; obtain ⟨c0, c1, c2, lt⟩ := HT.out)
   go_ret
   exact ⟨rfl, bn⟩
theorem ccheck7_any (y m k p : Int) (w : World) : Calls Try.prog 45 #[calV y m k, .int .i64 p] w fun e w' => e = .returned (.int .i64 (clE y m k p)) ∧ Below w.heap.size w w' := by
 obtain ⟨tn, bn⟩ := tri_new w 23 y m k
 have HT := Lib.hid tn
 obtain ⟨c0, c1, c2, lt⟩ := tn
 have h1 := fun w => cvalid7_any y m k w
 have h2 := fun w => cisp7_any y m k p w
 rcases clE_three y m k p with ⟨hv, he⟩ | ⟨hv, hp, he⟩ | ⟨hv, hp, he⟩
 ·rw [he]
  rw [hv] at h1
  have H1 := Lib.hid h1
  clear h1 h2 hv he
  go_enter Try.func45, Try.ntmps45
  go_wp2_with (go_at_call 35; refine (H1.out _).mono ?_; rintro e w' ⟨rfl, hb⟩; replace bn := below_more bn hb; replace HT := Lib.hid (HT.out.up hb); clear c0 c1 c2 lt hb; obtain ⟨c0, c1, c2, lt⟩ := HT.out)
  go_ret
  exact ⟨rfl, bn⟩
 ·rw [he]
  rw [hv] at h1
  rw [show (decide (0 ≤ p) && decide (p < k)) = false by rw [Bool.and_eq_false_iff, decide_eq_false_iff_not, decide_eq_false_iff_not]; omega] at h2
  have H1 := Lib.hid h1
  have H2 := Lib.hid h2
  clear h1 h2 hv he
  go_enter Try.func45, Try.ntmps45
  go_wp2_with (first | (go_at_call 35; refine (H1.out _).mono ?_; rintro e w' ⟨rfl, hb⟩; replace bn := below_more bn hb; replace HT := Lib.hid (HT.out.up hb); clear c0 c1 c2 lt hb; obtain ⟨c0, c1, c2, lt⟩ := HT.out) | (go_at_call 58; refine (H2.out _).mono ?_; rintro e w' ⟨rfl, hb⟩; replace bn := below_more bn hb; replace HT := Lib.hid (HT.out.up hb); clear c0 c1 c2 lt hb; obtain ⟨c0, c1, c2, lt⟩ := HT.out))
  go_ret
  exact ⟨rfl, bn⟩
 ·rw [he]
  rw [hv] at h1
  rw [show (decide (0 ≤ p) && decide (p < k)) = true by rw [Bool.and_eq_true, decide_eq_true_eq, decide_eq_true_eq]; exact hp] at h2
  have H1 := Lib.hid h1
  have H2 := Lib.hid h2
  clear h1 h2 hv he
  go_enter Try.func45, Try.ntmps45
  go_wp2_with (first | (go_at_call 35; refine (H1.out _).mono ?_; rintro e w' ⟨rfl, hb⟩; replace bn := below_more bn hb; replace HT := Lib.hid (HT.out.up hb); clear c0 c1 c2 lt hb; obtain ⟨c0, c1, c2, lt⟩ := HT.out) | (go_at_call 58; refine (H2.out _).mono ?_; rintro e w' ⟨rfl, hb⟩; replace bn := below_more bn hb; replace HT := Lib.hid (HT.out.up hb); clear c0 c1 c2 lt hb; obtain ⟨c0, c1, c2, lt⟩ := HT.out))
  go_ret
  exact ⟨rfl, bn⟩
theorem clast7_any (y m k p : Int) (w : World) : Calls Try.prog 33 #[calV y m k, .int .i64 p] w fun e w' => e = .returned (.tuple #[.int .i64 (pdL y m k p), .int .i64 (clE y m k p)]) ∧ Below w.heap.size w w' := by
 obtain ⟨tn, bn⟩ := tri_new w 23 y m k
 have HT := Lib.hid tn
 obtain ⟨c0, c1, c2, lt⟩ := tn
 have h1 := fun w => ccheck7_any y m k p w
 by_cases he : clE y m k p = 0
 ·obtain ⟨hv, hp⟩ := clE_yes he
  obtain ⟨-, -, e2, -⟩ := pd_in hv hp
  obtain ⟨a0, a1, a2⟩ := cl_month hv hp
  obtain ⟨ym, -⟩ := (clV_iff.1 hv).2
  obtain ⟨k0, k1⟩ := cl_k hv
  have h2 := fun w => cmon7_any y m k p w ym (by omega)
  have h3 := fun w => cciv7_any (mno y m + p) w (by omega)
  have hm := mln_bd (mno y m + p)
  obtain ⟨o1, o2⟩ := of_civ (mfst_civ (d := mln (mno y m + p)) a0 a1 (by omega) (Int.le_refl _))
  have h4 := fun w => dtof_any ((mno y m + p) / 12) ((mno y m + p) % 12 + 1) (mln (mno y m + p)) w
  have h5 := fun w => days_any ((mno y m + p) / 12) ((mno y m + p) % 12 + 1) w
  have hc := mfst_one a0 a1
  rw [dys_in (inYM_iff.2 ⟨hc.y0, hc.y1, hc.m0, hc.m1⟩), show mdy ((mno y m + p) / 12) ((mno y m + p) % 12 + 1) = mln (mno y m + p) from rfl] at h5
  rw [o1, o2] at h4
  rw [e2, he, mfst_succ _ a0]
  rw [he] at h1
  have H1 := Lib.hid h1
  have H2 := Lib.hid h2
  have H3 := Lib.hid h3
  have H4 := Lib.hid h4
  have H5 := Lib.hid h5
  clear h1 h2 h3 h4 h5 e2 a0 a1 a2 ym o1 o2 he hv hp hc hm
  generalize mfst (mno y m + p) + mln (mno y m + p) - 1 = F at *
  generalize mln (mno y m + p) = M at *
  generalize mno y m + p = T at *
  generalize T % 12 + 1 = b2 at *
  generalize T / 12 = a2 at *
  go_enter Try.func33, Try.ntmps33
  go_wp2_with (first | (go_at_call 45; refine (H1.out _).mono ?_; rintro e w' ⟨rfl, hb⟩; replace bn := below_more bn hb; replace HT := Lib.hid (HT.out.up hb); clear c0 c1 c2 lt hb; obtain ⟨c0, c1, c2, lt⟩ := HT.out) | (go_at_call 47; refine (H2.out _).mono ?_; rintro e w' ⟨rfl, hb⟩; replace bn := below_more bn hb; replace HT := Lib.hid (HT.out.up hb); clear c0 c1 c2 lt hb; obtain ⟨c0, c1, c2, lt⟩ := HT.out) | (go_at_call 46; refine (H3.out _).mono ?_; rintro e w' ⟨rfl, rfl⟩) | (go_at_call 49; refine (H5.out _).mono ?_; rintro e w' ⟨rfl, hb⟩; replace bn := below_more bn hb; replace HT := Lib.hid (HT.out.up hb); clear c0 c1 c2 lt hb; obtain ⟨c0, c1, c2, lt⟩ := HT.out) | (go_at_call 48; refine (H4.out _).mono ?_; rintro e w' ⟨rfl, hb⟩; replace bn := below_more bn hb; replace HT := Lib.hid (HT.out.up hb); clear c0 c1 c2 lt hb; obtain ⟨c0, c1, c2, lt⟩ := HT.out))
  go_ret2
  exact ⟨rfl, bn⟩
 ·obtain ⟨z1, z2, z3, z4, z5, z6, z7⟩ := pd_out he
  rw [z2]
  have hne : (clE y m k p != 0) = true := by simpa using he
  generalize clE y m k p = er at *
  have H1 := Lib.hid h1
  clear h1 he z1 z2 z3 z4 z5 z6 z7
  go_enter Try.func33, Try.ntmps33
  go_wp2_with (go_at_call 45; refine (H1.out _).mono ?_; rintro e w' ⟨rfl, hb⟩; replace bn := below_more bn hb; replace HT := Lib.hid (HT.out.up hb); clear c0 c1 c2 lt hb; obtain ⟨c0, c1, c2, lt⟩ := HT.out)
  go_ret2
  exact ⟨rfl, bn⟩
open Go.RowKit Go.Maps
structure LD where
 b : Nat
 n : Int
 y : Int
 m : Int
 k : Int
 bm : Nat
def LC (j : LD) : List Value := [.int .i64 j.n, .int .i64 j.y, .int .i64 j.m, .int .i64 j.k, .map (some j.bm)]
abbrev LD.p (j : LD) : Value := .pointer (some ⟨j.b, 0, none⟩)
structure LK (w : World) (j : LD) (z : Nat) (K : LkL) : Prop where
 box : Wh 59 w j.b (LC j)
 mp : MapS w j.bm z fun q => decide (q ∈ K)
 good : GoodL j.n j.k K
 cal : clV j.y j.m j.k = true
section
variable {w w' : World} {j : LD} {z : Nat} {K : LkL}
theorem LK.ne (h : LK w j z K) : j.b ≠ j.bm := fun e => by
 obtain ⟨es, k, h1⟩ := h.mp.isMap
 have h2 := h.box.blk
 rw [e, h1] at h2
 cases h2
theorem LK.up (h : LK w j z K) (hb : Below w.heap.size w w') : LK w' j z K := ⟨h.box.up hb, h.mp.up hb, h.good, h.cal⟩
theorem LK.mono {z' : Nat} (h : LK w j z K) (hz : z ≤ z') : LK w j z' K := ⟨h.box, h.mp.mono hz, h.good, h.cal⟩
set_option maxRecDepth 100000 in
theorem lise_any (e : Int) (h : LK w j z K) : Calls Try.prog 16 #[j.p, .int .i64 e] w fun r w' => r = .returned (.bool (decide (0 ≤ e ∧ e < j.n))) ∧ w = w' := by
 have c0 := h.box.at 0 _ rfl
 clear h
 by_cases h1 : 0 ≤ e
 ·by_cases h2 : e < j.n
  ·have e3 : decide (0 ≤ e ∧ e < j.n) = true := by simp [h1, h2]
   rw [e3]
   go_enter Try.func16, Try.ntmps16
   go_wp2_with fail
   go_ret
   exact ⟨by first | rfl | simp, rfl⟩
  ·have e3 : decide (0 ≤ e ∧ e < j.n) = false := by simp [h2]
   rw [e3]
   go_enter Try.func16, Try.ntmps16
   go_wp2_with fail
   go_ret
   exact ⟨by first | rfl | simp, rfl⟩
 ·have e3 : decide (0 ≤ e ∧ e < j.n) = false := by simp [h1]
  rw [e3]
  go_enter Try.func16, Try.ntmps16
  go_wp2_with fail
  go_ret
  exact ⟨by first | rfl | simp, rfl⟩
theorem clE_ok {y m k p : Int} (h : clV y m k = true) : (clE y m k p == 0) = decide (0 ≤ p ∧ p < k) := by
 by_cases hp : 0 ≤ p ∧ p < k
 ·rw [clE_in h hp, decide_eq_true hp]; rfl
 ·rw [clE_out h hp, decide_eq_false hp]; rfl
set_option maxRecDepth 100000 in
theorem lisp_any (p : Int) (h : LK w j z K) : Calls Try.prog 22 #[j.p, .int .i64 p] w fun r w' => r = .returned (.bool (decide (0 ≤ p ∧ p < j.k))) ∧ Below w.heap.size w w' := by
 have c1 := h.box.at 1 _ rfl
 have c2 := h.box.at 2 _ rfl
 have c3 := h.box.at 3 _ rfl
 rw [← clE_ok h.cal]
 clear h
 go_enter Try.func22, Try.ntmps22
 go_wp2_with (go_at_call 33; refine (clast7_any j.y j.m j.k p _).mono ?_; rintro r w3 ⟨rfl, hb⟩; have HB3 := Lib.hid hb; clear hb)
 go_ret
 exact ⟨rfl, HB3.out⟩
set_option maxRecDepth 100000 in
theorem llkd_any (e p : Int) (h : LK w j z K) (ho : okK (e, p)) : Calls Try.prog 23 #[j.p, .int .i64 e, .int .i64 p] w fun r w' => r = .returned (.bool (decide ((e, p) ∈ K))) ∧ w = w' := by
 have c4 := h.box.at 4 _ rfl
 have hlk := h.mp.look ho
 clear h
 go_enter Try.func23, Try.ntmps23
 go_wp2_with fail
 go_ret
 exact ⟨rfl, rfl⟩
end
open Go.RowKit Go.Maps
section
variable {w w' : World} {j : LD} {z : Nat} {K : LkL}
set_option maxRecDepth 100000 in
set_option maxHeartbeats 1600000 in
theorem lock_any (e p : Int) (h : LK w j z K) (ho : okK (e, p)) (hz : z ≤ 1000) : Calls Try.prog 11 #[j.p, .int .i64 e, .int .i64 p] w fun r w' => r = .returned (.int .i64 (addE j.n j.k K (e, p))) ∧ LK w' j (z + 1) (addL j.n j.k K (e, p)) ∧ Only (fun i => i = j.bm) w w' := by
 have HE := Lib.hid (lise_any e h)
 have HP := Lib.hid (lisp_any p h)
 have HLK := Lib.hid h
 have HO := Lib.hid ho
 by_cases h1 : 0 ≤ e ∧ e < j.n
 ·rw [decide_eq_true h1] at HE
  by_cases h2 : 0 ≤ p ∧ p < j.k
  ·rw [decide_eq_true h2] at HP
   by_cases h3 : (e, p) ∈ K
   ·have hA : addE j.n j.k K (e, p) = 9 := by unfold addE; rw [if_pos h1, if_pos h2, if_pos h3]
    have hL : addL j.n j.k K (e, p) = K := by unfold addL; rw [hA]; rfl
    rw [hA, hL]
    have HD := Lib.hid (decide_eq_true h3)
    clear h ho h1 h2 h3 hA hL
    go_enter Try.func11, Try.ntmps11
    go_wp2_with (first
     | (go_at_call 16; refine HE.out.mono ?_; rintro r w3 ⟨rfl, rfl⟩)
     | (go_at_call 22; refine HP.out.mono ?_; rintro r w4 ⟨rfl, hb⟩; have HB4 := Lib.hid hb; clear hb)
     | (go_at_call 23; refine (llkd_any e p (HLK.out.up HB4.out) HO.out).mono ?_; rw [HD.out]; rintro r w5 ⟨rfl, rfl⟩))
    go_ret
    exact ⟨rfl, (HLK.out.up HB4.out).mono (Nat.le_succ _), Only.of HB4.out⟩
   ·have hA : addE j.n j.k K (e, p) = 0 := by unfold addE; rw [if_pos h1, if_pos h2, if_neg h3]
    have hL : addL j.n j.k K (e, p) = insL K (e, p) := by unfold addL; rw [hA]; rfl
    have HG := Lib.hid (h.good.add (e, p))
    rw [hL] at HG
    rw [hA, hL]
    have HD := Lib.hid (decide_eq_false h3)
    have HZ : Hid (z ≤ 1000000) := Lib.hid (by omega)
    clear h ho h1 h2 h3 hA hL
    go_enter Try.func11, Try.ntmps11
    go_wp2_with (first
     | (go_at_call 16; refine HE.out.mono ?_; rintro r w3 ⟨rfl, rfl⟩)
     | (go_at_call 22; refine HP.out.mono ?_; rintro r w4 ⟨rfl, hb⟩; have HB4 := Lib.hid hb; clear hb; have c4 := (HLK.out.up HB4.out).box.at 4 _ rfl)
     | (go_at_call 23; refine (llkd_any e p (HLK.out.up HB4.out) HO.out).mono ?_; rw [HD.out]; rintro r w5 ⟨rfl, rfl⟩)
     | (refine wpList_maps_put rfl _ _ _ rfl rfl (HLK.out.up HB4.out).mp (k := (e, p)) rfl rfl HO.out HZ.out ?_; intro w6 hm6 ho6))
    go_ret
    have h4 := HLK.out.up HB4.out
    refine ⟨rfl, ⟨h4.box.only ho6.out h4.ne, hm6.out.ext fun c => ?_, HG.out, h4.cal⟩, (Only.of HB4.out).trans ho6.out⟩
    rw [← Bool.decide_or, decide_eq_decide]
    exact insL_mem
  ·rw [decide_eq_false h2] at HP
   have hA : addE j.n j.k K (e, p) = 2 := by unfold addE; rw [if_pos h1, if_neg h2]
   have hL : addL j.n j.k K (e, p) = K := by unfold addL; rw [hA]; rfl
   rw [hA, hL]
   clear h ho h1 h2 hA hL
   go_enter Try.func11, Try.ntmps11
   go_wp2_with (first
    | (go_at_call 16; refine HE.out.mono ?_; rintro r w3 ⟨rfl, rfl⟩)
    | (go_at_call 22; refine HP.out.mono ?_; rintro r w4 ⟨rfl, hb⟩; have HB4 := Lib.hid hb; clear hb))
   go_ret
   exact ⟨rfl, (HLK.out.up HB4.out).mono (Nat.le_succ _), Only.of HB4.out⟩
 ·rw [decide_eq_false h1] at HE
  have hA : addE j.n j.k K (e, p) = 1 := by unfold addE; rw [if_neg h1]
  have hL : addL j.n j.k K (e, p) = K := by unfold addL; rw [hA]; rfl
  rw [hA, hL]
  clear h ho h1 hA hL
  go_enter Try.func11, Try.ntmps11
  go_wp2_with (go_at_call 16; refine HE.out.mono ?_; rintro r w3 ⟨rfl, rfl⟩)
  go_ret
  exact ⟨rfl, HLK.out.mono (Nat.le_succ _), Only.refl _⟩
set_option maxRecDepth 100000 in
set_option maxHeartbeats 1600000 in
theorem unlock_any (e p : Int) (h : LK w j z K) (ho : okK (e, p)) : Calls Try.prog 32 #[j.p, .int .i64 e, .int .i64 p] w fun r w' => r = .returned (.int .i64 (remE K (e, p))) ∧ LK w' j z (remL K (e, p)) ∧ Only (fun i => i = j.bm) w w' := by
 have HLK := Lib.hid h
 have HO := Lib.hid ho
 have c4 := h.box.at 4 _ rfl
 by_cases h3 : (e, p) ∈ K
 ·have hA : remE K (e, p) = 0 := remE_zero.2 h3
  have hL : remL K (e, p) = delL K (e, p) := by unfold remL; rw [hA]; rfl
  have HG := Lib.hid (h.good.rem (e, p))
  rw [hL] at HG
  rw [hA, hL]
  have HD := Lib.hid (decide_eq_true h3)
  clear h ho h3 hA hL
  go_enter Try.func32, Try.ntmps32
  go_wp2_with (first
   | (go_at_call 23; refine (llkd_any e p HLK.out HO.out).mono ?_; rw [HD.out]; rintro r w5 ⟨rfl, rfl⟩)
   | (at_delete; refine wpList_maps_del rfl _ _ rfl rfl HLK.out.mp (k := (e, p)) rfl HO.out ?_; intro w6 hm6 ho6))
  go_ret
  have h4 := HLK.out
  refine ⟨rfl, ⟨h4.box.only ho6.out h4.ne, hm6.out.ext fun c => ?_, HG.out, h4.cal⟩, ho6.out⟩
  rw [Bool.eq_iff_iff]
  simp [delL_mem]
 ·have hA : remE K (e, p) = 8 := by unfold remE; rw [if_neg h3]
  have hL : remL K (e, p) = K := by unfold remL; rw [hA]; rfl
  rw [hA, hL]
  have HD := Lib.hid (decide_eq_false h3)
  clear h ho h3 hA hL
  go_enter Try.func32, Try.ntmps32
  go_wp2_with (go_at_call 23; refine (llkd_any e p HLK.out HO.out).mono ?_; rw [HD.out]; rintro r w5 ⟨rfl, rfl⟩)
  go_ret
  exact ⟨rfl, HLK.out, Only.refl _⟩
theorem unt_none {n k : Int} (hg : GoodL n k K) {e : Int} (h : ∀ q, 0 ≤ q → q < k → (e, q) ∉ K) : untM K e = -1 :=
 untM_none hg.pos fun p hp => by
  have h9 := inL_iff.1 (hg.inr _ hp)
  exact h p h9.2.1 h9.2.2 hp
theorem unt_at {n k : Int} (hg : GoodL n k K) {e p : Int} (hp : (e, p) ∈ K) (h : ∀ q, p < q → q < k → (e, q) ∉ K) : untM K e = p :=
 untM_is hg.pos hp fun q hq => by
  have h9 := inL_iff.1 (hg.inr _ hq)
  rcases Int.lt_or_le p q with h1 | h1
  ·exact absurd hq (h q h1 h9.2.2)
  ·exact h1
set_option maxRecDepth 100000 in
set_option maxHeartbeats 1600000 in
theorem until_any (e : Int) (h : LK w j z K) (he : (Lit.int .i64 e).wf = true) : Calls Try.prog 17 #[j.p, .int .i64 e] w fun r w' => r = .returned (.tuple #[.int .i64 (untD j.y j.m j.k K e), .bool (untB K e)]) ∧ Below w.heap.size w w' := by
 have HLK := Lib.hid h
 have HG := Lib.hid h.good
 have HC := Lib.hid h.cal
 have c3 := h.box.at 3 _ rfl
 obtain ⟨k, hk⟩ : ∃ k : Nat, (k : Int) = j.k := ⟨j.k.toNat, by have := (clV_iff.1 h.cal).1; omega⟩
 have hkb : 1 ≤ k ∧ k ≤ 120 := by have := (clV_iff.1 h.cal).1; omega
 have hk1 : IntKind.i64.wrap (j.k - 1) = j.k - 1 := by rw [IntKind.wrap_i64]; have := (clV_iff.1 h.cal).1; omega
 have HKJ := Lib.hid hk
 have HKB := Lib.hid hkb
 have HEW := Lib.hid he
 clear h hk hkb he
 go_enter Try.func17, Try.ntmps17
 go_wp2_with fail
 go_loopg [6] k (fun kx s6 wr => ∃ p : Int, s6 = .int .i64 p ∧ -1 ≤ p ∧ p < j.k ∧ p + 1 ≤ kx ∧ Hid (∀ q, p < q → q < j.k → (e, q) ∉ K) ∧ wr = w)
 case atStart => exact ⟨j.k - 1, rfl, by have := HKJ.out; have := HKB.out; omega, by omega, by have := HKJ.out; omega, Lib.hid (fun q h1 h2 => by omega), rfl⟩
 case round =>
  obtain ⟨p, rfl, hp1, hpk, hpx, HN, hW⟩ := hrel
  have hW2 := hW.symm
  subst hW2
  by_cases h0 : 0 ≤ p
  ·have hd : decide (0 ≤ p) = true := decide_eq_true h0
   have hge : decide (p ≥ 0) = true := decide_eq_true h0
   have hok : okK (e, p) := ⟨HEW.out, WalkArith.wf_i64 ⟨by have := HKJ.out; have := HKB.out; omega, by have := HKJ.out; have := HKB.out; omega⟩⟩
   have HL := Lib.hid (llkd_any e p HLK.out hok)
   by_cases h3 : (e, p) ∈ K
   ·rw [decide_eq_true h3] at HL
    have hM : untM K e = p := unt_at HG.out h3 HN.out
    have HU : Hid (untD j.y j.m j.k K e = pdL j.y j.m j.k p ∧ untB K e = true) := Lib.hid (by unfold untD untB; rw [hM]; exact ⟨if_pos h0, decide_eq_true h0⟩)
    have c1 := HLK.out.box.at 1 _ rfl
    have c2 := HLK.out.box.at 2 _ rfl
    have HCE : Hid (clE j.y j.m j.k p = 0) := Lib.hid (clE_in HC.out ⟨h0, hpk⟩)
    clear h3 hM hok hp1 hpk hpx
    go_wp2_with (first
     | (go_at_call 23; refine HL.out.mono ?_; rintro r w5 ⟨rfl, rfl⟩)
     | (go_at_call 33; refine (clast7_any j.y j.m j.k p _).mono ?_; rw [HCE.out]; rintro r w3 ⟨rfl, hb⟩; have HB3 := Lib.hid hb; clear hb))
    go_ret2
    exact ⟨by rw [HU.out.1, HU.out.2]; rfl, HB3.out⟩
   ·rw [decide_eq_false h3] at HL
    have HN2 : Hid (∀ q, p - 1 < q → q < j.k → (e, q) ∉ K) := Lib.hid (fun q h1 h2 => by
     rcases Int.lt_or_le p q with h4 | h4
     ·exact HN.out q h4 h2
     ·obtain rfl : q = p := by omega
      exact h3)
    have hp2 : IntKind.i64.wrap (p - 1) = p - 1 := by rw [IntKind.wrap_i64]; have := HKJ.out; have := HKB.out; omega
    obtain ⟨P2, hP2⟩ : ∃ P2, p - 1 = P2 := ⟨_, rfl⟩
    rw [hP2] at hp2 HN2
    have HP2 := Lib.hid hP2
    have h2a : -1 ≤ P2 := by omega
    have h2b : P2 < j.k := by omega
    have h2c : P2 + 1 ≤ p := by omega
    clear h3 hok hP2
    go_wp2_with (go_at_call 23; refine HL.out.mono ?_; rintro r w5 ⟨rfl, rfl⟩)
    go_roundg (p.toNat)
    case measure => omega
    case rel => exact ⟨P2, by first | rfl | (refine congrArg (Value.int .i64) ?_; rw [HP2.out]; unfold wrap64; have := HKJ.out; have := HKB.out; omega), h2a, h2b, by omega, HN2, rfl⟩
  ·obtain rfl : p = -1 := by omega
   have HU : Hid (untD j.y j.m j.k K e = 0 ∧ untB K e = false) := Lib.hid (by
    have hM := unt_none HG.out (e := e) fun q h1 h2 => HN.out q (by omega) h2
    unfold untD untB; rw [hM]; exact ⟨rfl, rfl⟩)
   clear hp1 hpk hpx h0
   go_wp2_with fail
   go_ret2
   exact ⟨by rw [HU.out.1, HU.out.2]; rfl, Below.refl _ _⟩
set_option maxRecDepth 100000 in
set_option maxHeartbeats 1600000 in
theorem check_any (x : Ety) (h : LK w j z K) (he : (Lit.int .i64 x.ent).wf = true) : Calls Try.prog 8 #[j.p, etyV x] w fun r w' => r = .returned (.int .i64 (chkL j.n j.y j.m j.k K x.ent x.day)) ∧ Below w.heap.size w w' := by
 obtain ⟨xs, hxs⟩ : ∃ xs, (etyC x).toArray = xs := ⟨_, rfl⟩
 have hxV : etyV x = .agg xs := by rw [etyV_is, hxs]
 rw [hxV]
 obtain ⟨s0, hs0⟩ : ∃ s0, w.heap.size = s0 := ⟨_, rfl⟩
 obtain ⟨w2, hw2⟩ : ∃ w2, w.alloc (.cells xs 42) = w2 := ⟨_, rfl⟩
 have HXB : Wh 42 w2 s0 (etyC x) := by rw [← hw2, ← hs0, ← hxs]; exact Wh.new w _ _
 have HB2 : Hid (Below w.heap.size w w2) := Lib.hid (by rw [← hw2]; exact below_alloc_new _)
 have HJ2 := Lib.hid (h.up HB2.out)
 have HS0 := Lib.hid hs0
 have p1 := HXB.at 1 _ rfl
 have HX2 := Lib.hid HXB
 have HI := Lib.hid (lise_any x.ent HJ2.out)
 have HU := Lib.hid (until_any x.ent HJ2.out he)
 clear h hxV hxs he HXB
 by_cases h1 : 0 ≤ x.ent ∧ x.ent < j.n
 ·rw [decide_eq_true h1] at HI
  have hE : chkL j.n j.y j.m j.k K x.ent x.day = if untB K x.ent = true ∧ x.day ≤ untD j.y j.m j.k K x.ent then 12 else 0 := by unfold chkL; rw [if_pos h1]
  rw [hE]
  clear h1 hE
  generalize untD j.y j.m j.k K x.ent = D at *
  generalize untB K x.ent = b at *
  cases b
  ·rw [show (if (false = true ∧ x.day ≤ D) then (12 : Int) else 0) = 0 from if_neg (fun h => by cases h.1)]
   go_enter Try.func8, Try.ntmps8
   go_wp2_with (first
    | (go_at_call 16; refine HI.out.mono ?_; rintro r w3 ⟨rfl, rfl⟩)
    | (go_at_call 17; refine HU.out.mono ?_; rintro r w4 ⟨rfl, hb⟩; have HB4 := Lib.hid hb; have p2 := (HX2.out.up hb).at 2 _ rfl; clear hb))
   go_ret
   exact ⟨rfl, by have h9 := HB2.out.trans (HB4.out.mono HB2.out.size); first | exact h9 | (rw [← HS0.out]; exact h9)⟩
  ·by_cases h2 : x.day ≤ D
   ·have hd2 : decide (x.day ≤ D) = true := decide_eq_true h2
    rw [if_pos ⟨rfl, h2⟩]
    go_enter Try.func8, Try.ntmps8
    go_wp2_with (first
     | (go_at_call 16; refine HI.out.mono ?_; rintro r w3 ⟨rfl, rfl⟩)
     | (go_at_call 17; refine HU.out.mono ?_; rintro r w4 ⟨rfl, hb⟩; have HB4 := Lib.hid hb; have p2 := (HX2.out.up hb).at 2 _ rfl; clear hb))
    go_ret
    exact ⟨rfl, by have h9 := HB2.out.trans (HB4.out.mono HB2.out.size); first | exact h9 | (rw [← HS0.out]; exact h9)⟩
   ·have hd2 : decide (x.day ≤ D) = false := decide_eq_false h2
    rw [if_neg (fun h => h2 h.2)]
    go_enter Try.func8, Try.ntmps8
    go_wp2_with (first
     | (go_at_call 16; refine HI.out.mono ?_; rintro r w3 ⟨rfl, rfl⟩)
     | (go_at_call 17; refine HU.out.mono ?_; rintro r w4 ⟨rfl, hb⟩; have HB4 := Lib.hid hb; have p2 := (HX2.out.up hb).at 2 _ rfl; clear hb))
    go_ret
    exact ⟨rfl, by have h9 := HB2.out.trans (HB4.out.mono HB2.out.size); first | exact h9 | (rw [← HS0.out]; exact h9)⟩
 ·rw [decide_eq_false h1] at HI
  have hE : chkL j.n j.y j.m j.k K x.ent x.day = 1 := by unfold chkL; rw [if_neg h1]
  rw [hE]
  clear h1 hE HU
  go_enter Try.func8, Try.ntmps8
  go_wp2_with (go_at_call 16; refine HI.out.mono ?_; rintro r w3 ⟨rfl, rfl⟩)
  go_ret
  exact ⟨rfl, by have h9 := HB2.out; first | exact h9 | (rw [← HS0.out]; exact h9)⟩
end
open Go.RowKit
theorem wpList_index_is {P : Program} {w : World} {ops : Array Oper} {rest : List Oper} {o : Oper} {a : Act} {Q : Exit → Act → World → Prop} (hg : o.guard = none) (ty : TypeId) (x y : Operand) (hop : o.op = .index ty x y) (p q : Value) (hx : a.eval x = p) (hy : a.eval y = q) (V : Value)
  (hl : (Instr.index ty p q).run P w = .ok V w) (h : wpList P ops Q rest (a.put o.dst V) w) : wpList P ops Q (o :: rest) a w := by
 refine wpList_plain hg fun K hK => ?_
 unfold Oper.wp execOp
 simp only [hop, hx, hy, Sem.run_bind, hl, Sem.run_pure, Result.andThen_ok]
 exact hK _ _ h
abbrev rowV (g : Grp) (i : Nat) : Value := .agg #[.string (rlN i), .int .i64 (g.R.getD i 0), .int .i64 (rlK i), .int .i64 (rlB i)]
set_option maxRecDepth 20000 in
theorem rol_index (g : Grp) (i : Nat) (hi : i < 15) (W : World) : (Instr.index 99 (.agg (rpC g)) (.int .i64 (i : Int))).run Try.prog W = .ok (rowV g i) W := by
 rcases (show i = 0 ∨ i = 1 ∨ i = 2 ∨ i = 3 ∨ i = 4 ∨ i = 5 ∨ i = 6 ∨ i = 7 ∨ i = 8 ∨ i = 9 ∨ i = 10 ∨ i = 11 ∨ i = 12 ∨ i = 13 ∨ i = 14 from by omega) with rfl | rfl | rfl | rfl | rfl | rfl | rfl | rfl | rfl | rfl | rfl | rfl | rfl | rfl | rfl
 all_goals kernel_rfl
def roN (R : List Int) (c : Int) : ByteArray := if c ∈ R then rlN (R.idxOf c) else ⟨#[]⟩
theorem ro_at {R : List Int} {c : Int} {k : Nat} (hk : k < R.length) (h0 : ∀ j, j < k → R.getD j 0 ≠ c) (h : R.getD k 0 = c) : roN R c = rlN k ∧ decide (c ∈ R) = true := by
 have hm : c ∈ R := by rw [← h]; exact getD_mem_acc hk
 have hx : R.idxOf c = k := by
  show R.findIdx (· == c) = k
  rw [List.findIdx_eq hk]
  rw [List.getD_eq_getElem?_getD, List.getElem?_eq_getElem hk] at h
  refine ⟨by simpa using h, fun j hj => ?_⟩
  have := h0 j hj
  rw [List.getD_eq_getElem?_getD, List.getElem?_eq_getElem (by omega)] at this
  simpa using this
 unfold roN
 rw [if_pos hm, hx]
 exact ⟨rfl, decide_eq_true hm⟩
theorem ro_no {R : List Int} {c : Int} (h0 : ∀ j, j < R.length → R.getD j 0 ≠ c) : roN R c = ⟨#[]⟩ ∧ decide (c ∈ R) = false := by
 have hm : c ∉ R := fun h => by
  obtain ⟨i, hi, e⟩ := mem_getD_acc (d := (0 : Int)) h
  exact h0 i hi e
 unfold roN
 rw [if_neg hm]
 exact ⟨rfl, decide_eq_false hm⟩
structure WB (w : World) (b : Nat) (g : Grp) (i : Nat) : Prop where
 c0 : w.cell? ⟨b, 0, none⟩ = some (.string (rlN i))
 c1 : w.cell? ⟨b, 1, none⟩ = some (.int .i64 (g.R.getD i 0))
 c2 : w.cell? ⟨b, 2, none⟩ = some (.int .i64 (rlK i))
 c3 : w.cell? ⟨b, 3, none⟩ = some (.int .i64 (rlB i))
 lt : b < w.heap.size
theorem wb_new (w : World) (t : TypeId) (g : Grp) (i : Nat) : WB (w.alloc (.cells #[.string (rlN i), .int .i64 (g.R.getD i 0), .int .i64 (rlK i), .int .i64 (rlB i)] t)) w.heap.size g i := by
 constructor
 case lt => simp
 all_goals (simp only [World.cell?]; rw [heap_alloc_new]; rfl)
set_option maxRecDepth 20000 in
set_option maxHeartbeats 1600000 in
theorem grole_any (g : Grp) (c : Int) (w : World) : Calls Try.prog 79 #[grpV g, .int .i64 c] w fun e w' => e = .returned (.tuple #[.string (roN g.R c), .bool (decide (c ∈ g.R))]) ∧ Below w.heap.size w w' := by
 have hB := below_alloc_new (w := w) (.cells #[.string g.cur, .int .i64 g.cy, .int .i64 g.cm, .int .i64 g.cp, .slice g.A g.n g.c, .int .i64 g.r0, .int .i64 g.r1, .int .i64 g.r2, .int .i64 g.r3, .int .i64 g.r4, .int .i64 g.r5, .int .i64 g.r6, .int .i64 g.r7, .int .i64 g.r8, .int .i64 g.r9, .int .i64 g.r10, .int .i64 g.r11, .int .i64 g.r12, .int .i64 g.r13, .int .i64 g.r14, .slice g.E g.m g.d] 29)
 have hG := gb_new w 29 g
 have hat := fun k (hk : k < 15) => ro_at (R := g.R) (c := c) (k := k) hk
 have hno := fun (h : ∀ j, j < 15 → g.R.getD j 0 ≠ c) => ro_no (R := g.R) (c := c) h
 have hix := fun i hi W => rol_index g i hi W
 have h1 := fun w => rolesof_any g w
 generalize roN g.R c = nm at *
 generalize decide (c ∈ g.R) = q at *
 obtain ⟨V, hV⟩ : ∃ V : Value, .agg (rpC g) = V := ⟨_, rfl⟩
 rw [hV] at hix h1
 obtain ⟨U, hU⟩ : ∃ U : Value, rolV g = U := ⟨_, rfl⟩
 rw [hU] at h1
 have hR := gb_roles hG
 rw [hU] at hR
 obtain ⟨s0, hs0⟩ : ∃ s0, w.heap.size = s0 := ⟨_, rfl⟩
 rw [hs0] at hB hR ⊢
 have HS0 := Lib.hid hs0
 have HAt := Lib.hid hat
 have HNo := Lib.hid hno
 have HIx := Lib.hid hix
 have HR := Lib.hid hR
 have H1 := Lib.hid h1
 clear hG hat hno hix h1 hV hU hR
 have hs1 : s0 ≤ (w.alloc (.cells #[.string g.cur, .int .i64 g.cy, .int .i64 g.cm, .int .i64 g.cp, .slice g.A g.n g.c, .int .i64 g.r0, .int .i64 g.r1, .int .i64 g.r2, .int .i64 g.r3, .int .i64 g.r4, .int .i64 g.r5, .int .i64 g.r6, .int .i64 g.r7, .int .i64 g.r8, .int .i64 g.r9, .int .i64 g.r10, .int .i64 g.r11, .int .i64 g.r12, .int .i64 g.r13, .int .i64 g.r14, .slice g.E g.m g.d] 29)).heap.size := by simp; omega
 have HS1 := Lib.hid hs1
 clear hs1
 go_enter Try.func79, Try.ntmps79
 go_wp2_with (first
  | (refine wpList_load_is rfl 26 _ rfl (.pointer (some ⟨s0, 5, none⟩)) rfl U HR.out ?_)
  | (go_at_call 53; refine (H1.out _).mono ?_; rintro e w1 ⟨rfl, hb⟩; have hB2 := hB.trans (hb.mono HS1.out); clear hb hB HR))
 clear hs0
 go_loopg [11] 15 (fun kx s11 wr => ∃ k : Nat, s11 = .int .i64 k ∧ k ≤ 15 ∧ 15 - k ≤ kx ∧ Hid (∀ j, j < k → g.R.getD j 0 ≠ c) ∧ Below s0 w wr)
 case atStart => exact ⟨0, rfl, by omega, by omega, Lib.hid (fun j h => absurd h (by omega)), hB2⟩
 case round =>
  clear hB2
  obtain ⟨k, rfl, hk, hkx, HN, hB⟩ := hrel
  by_cases hlt : k < 15
  ·have hltz : (k : Int) < 15 := by omega
   have hsz : s0 ≤ wr.heap.size := by have := hB.size; have := HS0.out; omega
   have hix := HIx.out k hlt
   have ha := HAt.out k hlt HN.out
   obtain ⟨z0, z1, z2, z3, zlt⟩ := wb_new wr 98 g k
   have hnx : g.R.getD k 0 ≠ c → Hid (∀ j, j < k + 1 → g.R.getD j 0 ≠ c) := fun h => Lib.hid fun j hj => by
    rcases Nat.lt_or_ge j k with h1 | h1
    ·exact HN.out j h1
    ·obtain rfl : j = k := by omega
     exact h
   have hB1 : Below s0 w (wr.alloc (.cells #[.string (rlN k), .int .i64 (g.R.getD k 0), .int .i64 (rlK k), .int .i64 (rlB k)] 98)) := hB.alloc hsz _
   unfold rowV at hix
   generalize g.R.getD k 0 = x at *
   generalize rlN k = y at *
   generalize rlK k = y2 at *
   generalize rlB k = y3 at *
   obtain ⟨T, hT⟩ : ∃ T, (.agg #[.string y, .int .i64 x, .int .i64 y2, .int .i64 y3] : Value) = T := ⟨_, rfl⟩
   have HIx2 := Lib.hid hix
   clear HN hix hT
   by_cases hq : x = c
   ·have e3 : (x == c) = true := by simp [hq]
    have HR := Lib.hid (ha hq)
    clear ha hnx hq
    go_wp2_with (refine wpList_index_is rfl 99 _ _ rfl V (.int .i64 (k : Int)) rfl rfl _ (HIx2.out _) ?_)
    go_ret2
    exact ⟨by rw [HR.out.1, HR.out.2]; rfl, hB1⟩
   ·have e3 : (x == c) = false := by simp [hq]
    have HN2 := hnx hq
    clear ha hnx hq
    go_wp2_with (refine wpList_index_is rfl 99 _ _ rfl V (.int .i64 (k : Int)) rfl rfl _ (HIx2.out _) ?_)
    go_roundg (15 - (k + 1))
    case measure => omega
    case rel => exact ⟨k + 1, by go_num, by omega, by omega, HN2, hB1⟩
  ·obtain rfl : k = 15 := by omega
   have HR := Lib.hid (HNo.out HN.out)
   go_wp2_with fail
   go_ret2
   exact ⟨by rw [HR.out.1, HR.out.2]; rfl, hB⟩
end Go.Proofs.Ytaeccljkmijpaaa
