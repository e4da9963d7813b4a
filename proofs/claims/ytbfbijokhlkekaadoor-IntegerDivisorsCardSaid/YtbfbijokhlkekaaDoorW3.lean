/- Contracts of the functions that the statement reaches, part 3: what was proved of each, callees first. -/
import Derived.Deep.RegionHeld3
import Derived.Lib.IndexBytes
import Derived.Deep.CutRange
import Derived.Deep.RegionHeld
import Derived.Below
import Derived.Deep.Draws
import Derived.BigRegion
import Derived.Test.YtbfbijokhlkekaaDoorW2
/- 'reduce': some steps of Euclid at once. -/
namespace Go.Proofs.YtbfbijokhlkekaaDoor
open Go.RowKit

theorem eq4d (d : Nat) (s0 s1 s2 s3 t0 t1 t2 t3 : Int) (w : World) :
    (Op.equalIn (d + 1 + 1) 99 (.agg #[.int .i64 s0, .int .i64 s1, .int .i64 s2, .int .i64 s3]) (.agg #[.int .i64 t0, .int .i64 t1, .int .i64 t2, .int .i64 t3])).run Tryd.prog w = .ok (s0 == t0 && s1 == t1 && s2 == t2 && s3 == t3) w := by
  have e : ∀ (a b : Int) (w : World), (Op.equalIn (d + 1) 2 (.int .i64 a) (.int .i64 b)).run Tryd.prog w = .ok (a == b) w := fun a b w => run_equalIn_int w d 2 .i64 .i64 a b Tryd.underlying2
  generalize d + 1 = d' at *
  simp only [Op.equalIn, Sem.run_bind, run_underlying Tryd.underlying99, Result.andThen_ok, Tryd.sizeOf2]
  simp only [Std.Legacy.Range.forIn_eq_forIn_range']
  simp only [Std.Legacy.Range.size, List.range', List.forIn_cons, List.forIn_nil]
  have hp : ∀ (cs : Array Value) (i : Nat) (v : Value) (w : World), cs[i]? = some v → (part 2 cs i).run Tryd.prog w = .ok v w := fun cs i v w h => by
    simp [part, Sem.run_bind, Tryd.isAgg2, h]
  have p0 : ∀ (a b c d : Value) (w : World), (part 2 #[a, b, c, d] 0).run Tryd.prog w = .ok a w := fun _ _ _ _ w => hp _ 0 _ w rfl
  have p1 : ∀ (a b c d : Value) (w : World), (part 2 #[a, b, c, d] 1).run Tryd.prog w = .ok b w := fun _ _ _ _ w => hp _ 1 _ w rfl
  have p2 : ∀ (a b c d : Value) (w : World), (part 2 #[a, b, c, d] 2).run Tryd.prog w = .ok c w := fun _ _ _ _ w => hp _ 2 _ w rfl
  have p3 : ∀ (a b c d : Value) (w : World), (part 2 #[a, b, c, d] 3).run Tryd.prog w = .ok d w := fun _ _ _ _ w => hp _ 3 _ w rfl
  by_cases h0 : s0 = t0
  · by_cases h1 : s1 = t1
    · by_cases h2 : s2 = t2
      · by_cases h3 : s3 = t3
        · simp [Sem.run_bind, Sem.run_ite, e, p0, p1, p2, p3, h0, h1, h2, h3]
        · simp [Sem.run_bind, Sem.run_ite, e, p0, p1, p2, p3, h0, h1, h2, h3]
      · simp [Sem.run_bind, Sem.run_ite, e, p0, p1, p2, h0, h1, h2]
    · simp [Sem.run_bind, Sem.run_ite, e, p0, p1, h0, h1]
  · simp [Sem.run_bind, Sem.run_ite, e, p0, h0]
theorem eq4 (s0 s1 s2 s3 t0 t1 t2 t3 : Int) (w : World) :
    (Op.equalIn 10000 99 (.agg #[.int .i64 s0, .int .i64 s1, .int .i64 s2, .int .i64 s3]) (.agg #[.int .i64 t0, .int .i64 t1, .int .i64 t2, .int .i64 t3])).run Tryd.prog w = .ok (s0 == t0 && s1 == t1 && s2 == t2 && s3 == t3) w := eq4d 9998 s0 s1 s2 s3 t0 t1 t2 t3 w

theorem combine2 (A A' : Option Addr) (c c' v : Nat) (p q : Int) (L M : List Nat) (w : World) (hl : L.length ≤ 400000) (hml : M.length ≤ L.length)
    (hp1 : -1000000000 ≤ p) (hp2 : p ≤ 1000000000) (hq1 : -1000000000 ≤ q) (hq2 : q ≤ 1000000000)
    (hL : Lim L) (hM : Lim M) (hv : (v : Int) = p * (val9 L : Int) + q * (val9 M : Int)) (hva : v ≤ val9 L) (hR : Row .u32 w w.heap.size A c L) (hR' : Row .u32 w w.heap.size A' c' M) :
    Calls Tryd.prog 83 #[.slice A L.length c, .slice A' M.length c', .int .i64 p, .int .i64 q] w fun e w' => ∃ A2 c2 R, e = .returned (.slice A2 (List.length R) c2) ∧
      Row .u32 w' w'.heap.size A2 c2 R ∧ Canon R ∧ val9 R = v ∧ R.length ≤ L.length ∧ Below w.heap.size w w' := by
  refine (combine_any A A' c c' p q L M w hl (by omega) hp1 hp2 hq1 hq2 hL hM hR hR').mono ?_
  rintro e w' ⟨rfl, hb, hbw⟩
  obtain ⟨k1, k2, k3, k4, k5⟩ := coSt_ok (q := q) (M := M) hL hM hp1 hp2 hq1 hq2 L.length
  have hval := coSt_end hL hM hp1 hp2 hq1 hq2 hml (by omega) (by omega)
  obtain ⟨R, h1, h2, h3, h4⟩ := trim_pack (c := L.length) hb k1 hb.lt (by rw [k4]; exact Nat.le_refl _)
  rw [k4] at h1
  have htl := trimN_le (coSt p q L M L.length).1 L.length
  exact ⟨_, _, R, by rw [h1], h2, h3, by rw [h4]; omega, by omega, hbw⟩
theorem top3_all {R : List Nat} (hR : Lim R) (j : Nat) (hz : ∀ k, j + 3 ≤ k → nth R k = 0) : val9 R / 1000000000 ^ j = top3 R j := by
  rcases Nat.lt_or_ge R.length j with h | h
  · have h1 := valB_lt hR
    have h2 : (1000000000 : Nat) ^ R.length ≤ 1000000000 ^ j := Nat.pow_le_pow_right (by omega) (by omega)
    have h3 : top3 R j = 0 := by unfold top3; rw [nth_ge (by omega), nth_ge (by omega), nth_ge (by omega)]
    rw [h3]
    exact Nat.div_eq_of_lt (by unfold val9; omega)
  · exact top3_val hR j h hz
/-- The numbers of the leading limbs. -/
theorem red_lead {L M : List Nat} {l3 : Nat} (hl : L.length = l3 + 3) (hml : M.length ≤ L.length) (hL : Lim L) (hM : Lim M) (hle : val9 M ≤ val9 L) :
    nth M (l3 + 2) ≤ nth L (l3 + 2) ∧ top3 L l3 / (nth L (l3 + 2) + 1) < 1000000000000000000 ∧ top3 M l3 / (nth L (l3 + 2) + 1) ≤ top3 L l3 / (nth L (l3 + 2) + 1) ∧
    ∃ S, 0 < S ∧ val9 L / S = top3 L l3 / (nth L (l3 + 2) + 1) ∧ val9 M / S = top3 M l3 / (nth L (l3 + 2) + 1) := by
  have h1 := top3_all hL l3 (fun k hk => nth_ge (by omega))
  have h2 := top3_all hM l3 (fun k hk => nth_ge (by omega))
  have h3 : top3 M l3 ≤ top3 L l3 := by rw [← h1, ← h2]; exact Nat.div_le_div_right hle
  have a1 := hL.nth (l3 + 1)
  have a2 := hL.nth l3
  have h4 : nth M (l3 + 2) ≤ nth L (l3 + 2) := by
    unfold top3 at h3
    omega
  refine ⟨h4, ?_, Nat.div_le_div_right h3, 1000000000 ^ l3 * (nth L (l3 + 2) + 1), Nat.mul_pos (Nat.pow_pos (by omega)) (by omega), ?_, ?_⟩
  · rw [Nat.div_lt_iff_lt_mul (by omega)]
    unfold top3
    omega
  · rw [← Nat.div_div_eq_div_mul, h1]
  · rw [← Nat.div_div_eq_div_mul, h2]
/-- What 'reduce' returns. -/
def RedPost (L M : List Nat) (w : World) (e : Ending) (w' : World) : Prop := ∃ A1 c1 C A2 c2 D, e = .returned (.tuple #[.slice A1 (List.length C) c1, .slice A2 (List.length D) c2]) ∧
  Row .u32 w' w'.heap.size A1 c1 C ∧ Row .u32 w' w'.heap.size A2 c2 D ∧ Canon C ∧ Canon D ∧ val9 D ≤ val9 C ∧ Nat.gcd (val9 C) (val9 D) = Nat.gcd (val9 L) (val9 M) ∧ val9 C + val9 D < val9 L + val9 M ∧
  List.length C ≤ L.length ∧ List.length D ≤ L.length ∧ Below w.heap.size w w'

set_option maxRecDepth 20000 in
set_option maxHeartbeats 3200000 in
theorem reduce_any (A A' : Option Addr) (c c' l3 : Nat) (L M : List Nat) (w : World) (hl : L.length = l3 + 3) (hl3 : l3 ≤ 390000) (hm3 : 3 ≤ M.length) 
    (hL : Canon L) (hM : Canon M) (hle : val9 M ≤ val9 L) (hR : Row .u32 w w.heap.size A c L) (hR' : Row .u32 w w.heap.size A' c' M) :
    Calls Tryd.prog 71 #[.slice A L.length c, .slice A' M.length c'] w (RedPost L M w) := by
  have hml := canon_len hL hM hle
  obtain ⟨t1, t2, t3, S, s1, s2, s3⟩ := red_lead hl hml hL.lim hM.lim hle
  have hsafe := safe_any A A' c c' l3 L M w hl hl3 (by omega) hL.lim hM.lim hR hR' t1 t2 t3
  have hdiv := fun W h1 h2 => divide_any A A' c c' L M W (by omega) (by omega) (by omega) hL hM h1 h2
  have hco := fun v p q W a1 a2 a3 a4 a5 a6 h1 h2 => combine2 A A' c c' v p q L M W (by omega) hml a1 a2 a3 a4 hL.lim hM.lim a5 a6 h1 h2
  -- the way without steps
  have hend1 : ∀ e W, Below w.heap.size w W → ∀ W', DivPost L M W e W' → ∃ (A1 : Option Addr) (c1 : Nat) (A2 : Option Addr) (c2 : Nat) (Q R : List Nat), e = .returned (.tuple #[.slice A1 (List.length Q) c1, .slice A2 (List.length R) c2]) ∧
      RedPost L M w (.returned (.tuple #[.slice A' M.length c', .slice A2 (List.length R) c2])) W' := by
    rintro e W hbW W' ⟨A1, c1, Q, A2, c2, R, rfl, k1, k2, k3, k4, k5, k6, k7, k8, k9⟩
    have hlr := canon_len hM k4 (Nat.le_of_lt k6)
    have hb := below_then hbW k9 hbW.size
    refine ⟨A1, c1, A2, c2, Q, R, rfl, A', c', M, A2, c2, R, rfl, hR'.up hb, k2, hM, k4, Nat.le_of_lt k6, ?_, by omega, hml, by omega, hb⟩
    have e1 : val9 R = val9 L % val9 M := by
      rw [← k5, Nat.mul_comm, Nat.mul_add_mod, Nat.mod_eq_of_lt k6]
    rw [e1, Nat.gcd_comm, ← Nat.gcd_rec, Nat.gcd_comm]
  -- the way with steps
  have hend2 : ∀ x y s0 s1 s2 s3 : Int, StOut (top3 L l3 / (nth L (l3 + 2) + 1)) (top3 M l3 / (nth L (l3 + 2) + 1)) x y s0 s1 s2 s3 → ¬ (s0 = 1 ∧ s1 = 0 ∧ s2 = 0 ∧ s3 = 1) →
      (-1000000000 ≤ s0 ∧ s0 ≤ 1000000000 ∧ -1000000000 ≤ s1 ∧ s1 ≤ 1000000000 ∧ -1000000000 ≤ s2 ∧ s2 ≤ 1000000000 ∧ -1000000000 ≤ s3 ∧ s3 ≤ 1000000000) ∧ ∃ c d, SE (val9 L) (val9 M) c d s0 s1 s2 s3 := by
    rintro x y _ _ _ _ ⟨e, X, Y, P, Q, R, T, u, v, m, n, h, rfl, rfl, rfl, rfl, rfl, rfl⟩ hne
    refine ⟨⟨(sg_box _ h.p9).1, (sg_box _ h.p9).2, (sg_box _ h.q9).1, (sg_box _ h.q9).2, (sg_box _ h.r9).1, (sg_box _ h.r9).2, (sg_box _ h.t9).1, (sg_box _ h.t9).2⟩, ?_⟩
    rcases h.id with ⟨i1, i2, i3, i4, i5, i6, i7⟩ | ⟨i1, i2, i3, i4⟩
    · exfalso; apply hne; subst i1 i2 i3 i4 i5; simp [sg]
    · exact st_end h s1 s2 s3 i1 i2 i3 i4
  have hfin : ∀ W v1 v2 A1 c1 C A2 c2 D s0 s1 s2 s3, SE (val9 L) (val9 M) v1 v2 s0 s1 s2 s3 → Row .u32 W W.heap.size A1 c1 C → Row .u32 W W.heap.size A2 c2 D → Canon C → Canon D → val9 C = v1 → val9 D = v2 → List.length C ≤ L.length → List.length D ≤ L.length → Below w.heap.size w W →
      RedPost L M w (.returned (.tuple #[.slice A1 (List.length C) c1, .slice A2 (List.length D) c2])) W := by
    rintro W v1 v2 A1 c1 C A2 c2 D s0 s1 s2 s3 hse k1 k2 k3 k4 rfl rfl k5 k6 k7
    exact ⟨A1, c1, C, A2, c2, D, rfl, k1, k2, k3, k4, Nat.le_of_lt hse.dc, hse.g, hse.less, k5, k6, k7⟩
  have HSAFE := Lib.hid hsafe
  have HDIV := Lib.hid hdiv
  have HCO := Lib.hid hco
  have HEND1 := Lib.hid hend1
  have HEND2 := Lib.hid hend2
  have HFIN := Lib.hid hfin
  have HR := Lib.hid hR
  have HR' := Lib.hid hR'
  clear hsafe hdiv hco hend1 hend2 hfin hR hR' hl hml t1 t2 t3 s1 s2 s3 hm3 hl3 hle hL hM
  generalize hll : L.length = ll at *
  generalize hlm : M.length = lm at *
  have HLL := Lib.hid hll
  have HLM := Lib.hid hlm
  clear hll hlm
  go_enter Tryd.func71, Tryd.ntmps71
  go_wp2_with fail
  refine HSAFE.out.mono ?_
  rintro e w1 ⟨x, y, s0, s1, s2, s3, rfl, hst, hb1⟩
  have HB1 := Lib.hid hb1
  clear hb1
  by_cases hid : s0 = 1 ∧ s1 = 0 ∧ s2 = 0 ∧ s3 = 1
  · obtain ⟨rfl, rfl, rfl, rfl⟩ := hid
    have heq : ∀ W : World, (Op.equalIn 10000 99 (.agg #[.int .i64 1, .int .i64 0, .int .i64 0, .int .i64 1]) (.agg #[.int .i64 1, .int .i64 0, .int .i64 0, .int .i64 1])).run Tryd.prog W = .ok true W := fun W => by rw [eq4]; rfl
    have HEQ := Lib.hid heq
    clear heq
    go_wp2_with (simp only [HEQ.out, Result.andThen_ok])
    have hbW : Below w.heap.size w (w1.alloc (.cells #[.int .i64 1, .int .i64 0, .int .i64 0, .int .i64 1] 99)) := HB1.out.alloc HB1.out.size _
    have HBW := Lib.hid hbW
    clear hbW
    refine (HDIV.out _ (HR.out.up HBW.out) (HR'.out.up HBW.out)).mono ?_
    intro e w2 hd
    obtain ⟨A1, c1, A2, c2, Q, R, rfl, hpost⟩ := HEND1.out _ _ HBW.out _ hd
    have HPOST := Lib.hid hpost
    clear hpost hd
    go_wp2_with fail
    go_ret2
    exact HPOST.out
  · have heq : ∀ W : World, (Op.equalIn 10000 99 (.agg #[.int .i64 s0, .int .i64 s1, .int .i64 s2, .int .i64 s3]) (.agg #[.int .i64 1, .int .i64 0, .int .i64 0, .int .i64 1])).run Tryd.prog W = .ok false W := fun W => by
      rw [eq4]
      have : (s0 == 1 && s1 == 0 && s2 == 0 && s3 == 1) = false := by
        rw [Bool.eq_false_iff]
        intro h
        simp only [Bool.and_eq_true, beq_iff_eq] at h
        exact hid ⟨h.1.1.1, h.1.1.2, h.1.2, h.2⟩
      rw [this]
    have HEQ := Lib.hid heq
    obtain ⟨hbd, v1, v2, hse⟩ := HEND2.out _ _ _ _ _ _ hst.out hid
    have HSE := Lib.hid hse
    have HBD := Lib.hid hbd
    clear heq hse hbd hst hid
    go_wp2_with (simp only [HEQ.out, Result.andThen_ok])
    have hbx := Box4.new w1 s0 s1 s2 s3
    have hbW : Below w.heap.size w (w1.alloc (.cells #[.int .i64 s0, .int .i64 s1, .int .i64 s2, .int .i64 s3] 99)) := HB1.out.alloc HB1.out.size _
    change Code.wp Tryd.prog _ _ _ (w1.alloc (.cells #[.int .i64 s0, .int .i64 s1, .int .i64 s2, .int .i64 s3] 99))
    generalize w1.alloc (.cells #[.int .i64 s0, .int .i64 s1, .int .i64 s2, .int .i64 s3] 99) = W at *
    have hlt := hbx.lt
    obtain ⟨y0, y1, y2, y3, _, _, _, _⟩ := hbx.all
    have hf0 := y0
    have hf1 := y1
    have hf2 := y2
    have hf3 := y3
    have HC := Lib.hid (below_drew (Below.refl W.heap.size W))
    have HRW := Lib.hid (HR.out.up hbW)
    have HRW' := Lib.hid (HR'.out.up hbW)
    have HBW := Lib.hid hbW
    clear hbx hbW HR HR' HB1 HSAFE HDIV HEND1 HEND2 HEQ
    go_region_held3 (fun w' => w'.cell? ⟨w1.heap.size, 0, none⟩ = some (.int .i64 s0) ∧ w'.cell? ⟨w1.heap.size, 1, none⟩ = some (.int .i64 s1) ∧
        w'.cell? ⟨w1.heap.size, 2, none⟩ = some (.int .i64 s2) ∧ w'.cell? ⟨w1.heap.size, 3, none⟩ = some (.int .i64 s3)) (go_keep)
      (first
        | (go_at_call 83; (with_reducible refine (HCO.out v1 s0 s1 _ HBD.out.1 HBD.out.2.1 HBD.out.2.2.1 HBD.out.2.2.2.1 HSE.out.c0 HSE.out.ca (HRW.out.up HC.out) (HRW'.out.up HC.out)).mono ?_); rintro e w4 ⟨A1, c1, X, rfl, i1, i2, i3, i4, hb4⟩; have HX := Lib.hid i1; have HX2 := Lib.hid i2; have HX3 := Lib.hid i3; have HX4 := Lib.hid i4; clear i1 i2 i3 i4; (try (have HY9 := Lib.hid (HY.out.up hb4); clear HY; have HY := HY9; clear HY9)); have HC9 := Lib.hid (below_then HC.out hb4 HC.out.size); clear HC hf0 hf1 hf2 hf3; have HC := HC9; clear HC9; have hf0 := (below_atB (i := 0) HC.out hlt).trans y0; have hf1 := (below_atB (i := 1) HC.out hlt).trans y1; have hf2 := (below_atB (i := 2) HC.out hlt).trans y2; have hf3 := (below_atB (i := 3) HC.out hlt).trans y3; clear hb4)
        | (go_at_call 83; (with_reducible refine (HCO.out v2 s2 s3 _ HBD.out.2.2.2.2.1 HBD.out.2.2.2.2.2.1 HBD.out.2.2.2.2.2.2.1 HBD.out.2.2.2.2.2.2.2 HSE.out.d0 HSE.out.da (HRW.out.up HC.out) (HRW'.out.up HC.out)).mono ?_); rintro e w4 ⟨A2, c2, Y, rfl, i1, i2, i3, i4, hb4⟩; have HY := Lib.hid i1; have HY2 := Lib.hid i2; have HY3 := Lib.hid i3; have HY4 := Lib.hid i4; clear i1 i2 i3 i4; (try (have HX9 := Lib.hid (HX.out.up hb4); clear HX; have HX := HX9; clear HX9)); have HC9 := Lib.hid (below_then HC.out hb4 HC.out.size); clear HC hf0 hf1 hf2 hf3; have HC := HC9; clear HC9; have hf0 := (below_atB (i := 0) HC.out hlt).trans y0; have hf1 := (below_atB (i := 1) HC.out hlt).trans y1; have hf2 := (below_atB (i := 2) HC.out hlt).trans y2; have hf3 := (below_atB (i := 3) HC.out hlt).trans y3; clear hb4))
    all_goals
      go_wp2
      go_ret2
      exact HFIN.out _ v1 v2 _ _ X _ _ Y s0 s1 s2 s3 HSE.out HX.out HY.out HX2.out HY2.out HX3.out HY3.out HX4.out HY4.out (below_then HBW.out HC.out HBW.out.size)
end Go.Proofs.YtbfbijokhlkekaaDoor

/- The numbers that a slice reads as, as a function of the world: for the measure of loops. -/
namespace Go.Proofs.YtbfbijokhlkekaaDoor
open Go.RowKit

def numAt (w : World) (b o i : Nat) : Nat := match w.cell? ⟨b, o + i, none⟩ with
  | some (.int _ x) => x.toNat
  | _ => 0
def readRow (w : World) : Value → List Nat
  | .slice (some p) n _ => (List.range n).map fun i => numAt w p.block p.off i
  | _ => []
theorem readRow_row {k : IntKind} {w : World} {B c : Nat} {A : Option Addr} {L : List Nat} (h : Row k w B A c L) : readRow w (.slice A L.length c) = L := by
  rcases Nat.eq_zero_or_pos L.length with h0 | h0
  · have e := List.eq_nil_of_length_eq_zero h0
    subst e
    cases A <;> simp [readRow]
  · obtain ⟨b, o, rfl, _, hc⟩ := h.spot h0
    simp only [readRow]
    apply List.ext_getElem
    · simp
    · intro i h1 h2
      have h3 := hc i h2
      simp only [List.getElem_map, List.getElem_range, numAt, h3]
      rw [nth_lt h2]
      simp
end Go.Proofs.YtbfbijokhlkekaaDoor

/- 'limbsOf', 'wordOf' and 'Of'. -/
namespace Go.Proofs.YtbfbijokhlkekaaDoor
open Go.RowKit

/-- The limbs of a number. -/
def limbsN (n : Nat) : List Nat := if n = 0 then [] else n % 1000000000 :: limbsN (n / 1000000000)
termination_by n
decreasing_by omega
theorem limbsN_zero : limbsN 0 = [] := by rw [limbsN]; rfl
theorem limbsN_pos {n : Nat} (h : 0 < n) : limbsN n = n % 1000000000 :: limbsN (n / 1000000000) := by rw [limbsN, if_neg (by omega)]
theorem limbsN_val (n : Nat) : val9 (limbsN n) = n := by
  induction n using Nat.strongRecOn with
  | _ n ih =>
    rcases Nat.eq_zero_or_pos n with rfl | h
    · rw [limbsN_zero]; rfl
    · rw [limbsN_pos h]
      have := ih (n / 1000000000) (by omega)
      show n % 1000000000 + 1000000000 * val9 _ = n
      rw [this]; omega
theorem limbsN_canon (n : Nat) : Canon (limbsN n) := by
  induction n using Nat.strongRecOn with
  | _ n ih =>
    rcases Nat.eq_zero_or_pos n with rfl | h
    · rw [limbsN_zero]; exact ⟨fun _ h => absurd h (List.not_mem_nil), fun h => absurd h (Nat.lt_irrefl 0)⟩
    · have i := ih (n / 1000000000) (by omega)
      have e := limbsN_pos h
      rw [e]
      refine ⟨fun d hd => ?_, fun _ => ?_⟩
      · rcases List.mem_cons.1 hd with h1 | h1
        · omega
        · exact i.lim d h1
      · rcases Nat.eq_zero_or_pos (n / 1000000000) with h0 | h0
        · rw [h0, limbsN_zero]; simp [nth]; omega
        · have hl : 0 < (limbsN (n / 1000000000)).length := by rw [limbsN_pos h0]; simp
          have ht := i.top hl
          have : nth (n % 1000000000 :: limbsN (n / 1000000000)) ((n % 1000000000 :: limbsN (n / 1000000000)).length - 1) = nth (limbsN (n / 1000000000)) ((limbsN (n / 1000000000)).length - 1) := by
            generalize limbsN (n / 1000000000) = l at *
            rcases l with _ | ⟨a, r⟩
            · simp at hl
            · simp [nth]
          rw [this]; exact ht
theorem limbsN_len (n : Nat) (h : n < 1000000000000000000000000000) : (limbsN n).length ≤ 3 := by
  rcases Nat.eq_zero_or_pos n with rfl | h1
  · rw [limbsN_zero]; simp
  · rw [limbsN_pos h1]
    rcases Nat.eq_zero_or_pos (n / 1000000000) with h2 | h2
    · rw [h2, limbsN_zero]; simp
    · rw [limbsN_pos h2]
      rcases Nat.eq_zero_or_pos (n / 1000000000 / 1000000000) with h3 | h3
      · rw [h3, limbsN_zero]; simp
      · rw [limbsN_pos h3]
        have : n / 1000000000 / 1000000000 / 1000000000 = 0 := by omega
        rw [this, limbsN_zero]; simp

set_option maxHeartbeats 1600000 in
theorem limbsOf_any (n : Nat) (w : World) (hn : n ≤ 10000000000000000000) :
    Calls Tryd.prog 48 #[.int .u64 n] w fun e w' => ∃ A c, e = .returned (.slice A (limbsN n).length c) ∧ Row .u32 w' w'.heap.size A c (limbsN n) ∧ Below w.heap.size w w' := by
  obtain ⟨i0, hi, hz0, hz1, hz2⟩ := info_parts info68
  have hlen := limbsN_len n (by omega)
  have HLEN := Lib.hid hlen
  clear hlen
  go_enter Tryd.func48, Tryd.ntmps48
  go_wp2
  go_loopw [0, 3] (fun wv lv wr => ∃ (m : Nat) (pre : List Nat), m ≤ n ∧ wv = .int .u64 m ∧ Own .u32 68 wr w.heap.size lv pre ∧ Hid (pre ++ limbsN m = limbsN n) ∧ Below w.heap.size w wr) (fun wv _ _ => (intOf wv).toNat)
  case atStart => exact ⟨n, [], Nat.le_refl _, rfl, Own.nil _ _ _ _, by show _ = _; simp, Below.refl _ _⟩
  case round =>
    obtain ⟨m, pre, hm, rfl, ho, hpre, hbw⟩ := hrel
    have hsz := hbw.size
    rcases Nat.eq_zero_or_pos m with rfl | hpos
    · have hd : decide ((0 : Int) < ((0 : Nat) : Int)) = false := by simp
      have hp := hpre.out
      rw [limbsN_zero, List.append_nil] at hp
      obtain ⟨A, c, hv, hrow⟩ := ho.row
      subst hv
      have HR := Lib.hid hrow
      have HP := Lib.hid hp
      clear hp hrow ho hpre
      go_wp2
      go_ret
      have hpp := HP.out
      exact ⟨A, c, by rw [← hpp]; rfl, by rw [← hpp]; exact HR.out, hbw⟩
    · have hpl : pre.length ≤ 100000000 := by
        have h1 := congrArg List.length hpre.out
        rw [List.length_append] at h1
        have := HLEN.out
        omega
      have HPL := Lib.hid hpl
      have HO := Lib.hid ho
      have hp0 : (0 : Int) < (m : Int) := by omega
      clear hpl ho
      go_wp2_with (at_builtin; refine wpList_append_num wr rfl (.tmp 8) (.tmp 12) 23 rfl .u32 w.heap.size 68 i0 4 Tryd.underlying23 hi hz0 hz1 hz2 (by omega) u3 _ (by rfl) HO.out _ (m % 1000000000) ?_ 1 rfl HPL.out ?_ ?_; (simp); (exact hsz); intro v2 w2 ho2 hb2)
      go_roundw
      case rel =>
        exact ⟨m / 1000000000, pre ++ [m % 1000000000], by omega, by simp, ho2.out, by show _ = _; rw [List.append_assoc]; rw [← hpre.out, limbsN_pos hpos]; rfl, hbw.trans hb2⟩
      case measure => simp [intOf]; omega
end Go.Proofs.YtbfbijokhlkekaaDoor

/- 'wordOf' and 'Of'. -/
namespace Go.Proofs.YtbfbijokhlkekaaDoor
open Go.RowKit

set_option maxHeartbeats 1600000 in
theorem wordOf_any (A : Option Addr) (c : Nat) (L : List Nat) (w : World) (hl : L.length ≤ 1000000) (hv : val9 L ≤ 10000000000000000000) (hR : Row .u32 w w.heap.size A c L) (hL : Lim L) :
    Calls Tryd.prog 49 #[.slice A L.length c] w fun e w' => e = .returned (.int .u64 (val9 L)) ∧ w = w' := by
  have hvd : ∀ k, val9 (L.drop k) ≤ 10000000000000000000 := fun k => by
    have h1 := valB_append 1000000000 (L.take k) (L.drop k)
    rw [List.take_append_drop] at h1
    have h2 : 1 * valB 1000000000 (L.drop k) ≤ 1000000000 ^ (L.take k).length * valB 1000000000 (L.drop k) := Nat.mul_le_mul_right _ (Nat.pow_pos (by omega))
    unfold val9 at *
    omega
  have HVD := Lib.hid hvd
  clear hvd hv
  generalize hn : L.length = n at *
  have HN := Lib.hid hn
  clear hn
  go_enter Tryd.func49, Tryd.ntmps49
  go_wp2
  go_loop [3, 4] (fun wv iv => ∃ (k v : Nat), k ≤ n ∧ iv = .int .i64 ((k : Int) - 1) ∧ wv = .int .u64 v ∧ Hid (v = val9 (L.drop k))) (fun _ iv => (intOf iv + 1).toNat)
  case atStart => exact ⟨n, 0, Nat.le_refl _, rfl, rfl, by show _ = _; rw [List.drop_of_length_le (by rw [HN.out]; exact Nat.le_refl _)]; rfl⟩
  case round =>
    obtain ⟨k, v, hk, rfl, rfl, ht⟩ := hrel
    rcases Nat.eq_zero_or_pos k with rfl | hpos
    · have hd : decide ((0 : Int) ≤ ((0 : Nat) : Int) - 1) = false := by simp
      go_wp2
      go_ret
      have htt := ht.out
      rw [List.drop_zero] at htt
      exact ⟨by rw [htt]; rfl, rfl⟩
    · obtain ⟨m, rfl⟩ : ∃ m, k = m + 1 := ⟨k - 1, by omega⟩
      have h1 : ((0 : Int) ≤ ((m + 1 : Nat) : Int) - 1) := by omega
      obtain ⟨b, o, rfl, _, hcell⟩ := hR.spot (by rw [HN.out]; omega)
      have hc := hcell m (by rw [HN.out]; omega)
      have hd := hL.nth m
      have hst := valB_drop 1000000000 L m (by rw [HN.out]; omega)
      have hbd := HVD.out m
      unfold val9 at hbd
      rw [hst] at hbd
      have htt := ht.out
      unfold val9 at htt
      rw [← htt] at hbd
      have e1 : ((m + 1 : Nat) : Int) - 1 = (m : Int) := by omega
      rw [e1]
      have HST := Lib.hid hst
      clear e1 h1 hcell hst htt
      go_wp2
      go_round
      case rel => exact ⟨m, v * 1000000000 + nth L m, by omega, rfl, by simp, by
        show _ = _
        have h9 := ht.out
        unfold val9 at h9 ⊢
        rw [HST.out, ← h9]; omega⟩
      case measure => simp [intOf]

theorem wrap_neg {n : Int} (h1 : -9223372036854775808 ≤ n) (h2 : n < 0) : IntKind.u64.wrap (-IntKind.u64.wrap n) = -n := by
  simp only [IntKind.wrap, IntKind.signed, IntKind.bits, Bool.false_and, Bool.false_eq_true, if_false]
  omega
set_option maxRecDepth 20000 in
set_option maxHeartbeats 1600000 in
theorem of_any (n : Int) (w : World) (h1 : -9223372036854775808 ≤ n) (h2 : n ≤ 9223372036854775807) :
    Calls Tryd.prog 19 #[.int .i64 n] w fun e w' => ∃ k A c, e = .returned (.agg #[.bool k, .slice A (limbsN n.natAbs).length c]) ∧ IntR w' w'.heap.size k A c (limbsN n.natAbs) ∧ zI k (limbsN n.natAbs) = n ∧ Below w.heap.size w w' := by
  have hLo : ∀ (x : Int), x = (n.natAbs : Int) → ∀ W, Calls Tryd.prog 48 #[.int .u64 x] W fun e w' => ∃ A c, e = .returned (.slice A (limbsN n.natAbs).length c) ∧ Row .u32 w' w'.heap.size A c (limbsN n.natAbs) ∧ Below W.heap.size W w' := by
    intro x hx W
    subst hx
    exact limbsOf_any n.natAbs W (by omega)
  have HLO := Lib.hid hLo
  clear hLo
  have hval := limbsN_val n.natAbs
  have hcan := limbsN_canon n.natAbs
  have hz0 : n.natAbs = 0 → (limbsN n.natAbs).length = 0 := fun h => by rw [h, limbsN_zero]; rfl
  have hzp : 0 < n.natAbs → 0 < (limbsN n.natAbs).length := fun h => by rw [limbsN_pos h]; simp
  by_cases hneg : n < 0
  · have hn : (n.natAbs : Int) = -n := by omega
    go_enter Tryd.func19, Tryd.ntmps19
    go_wp2_with fail
    refine (HLO.out _ (by rw [hn]; exact wrap_neg h1 hneg) _).mono ?_
    rintro e w1 ⟨A, c, rfl, hr1, hb1⟩
    have X := boxed hb1
    have HB1 := Lib.hid X.2.2.2
    have hs1 := X.2.2.1
    clear X hb1
    have HN := Lib.hid hn
    have HZP := Lib.hid (hzp (by omega))
    have HV := Lib.hid hval
    have HCAN := Lib.hid hcan
    clear hn hz0 hzp hval hcan
    go_wp2_with fail
    refine (signed_any _ _ _ _ _).mono ?_
    rintro e w2 ⟨rfl, hb2⟩
    have HR2 := Lib.hid ((hr1.below hb2).more hb2.size)
    have hby := below_then HB1.out hb2 hs1
    have hy0 := (boxed2 hby).1
    have hy1 := (boxed2 hby).2
    have gy0 := boxedF hby 0
    have gy1 := boxedF hby 1
    have HBY := Lib.hid hby
    have hdt : (true && decide (0 < (limbsN n.natAbs).length)) = true := by simpa using HZP.out
    rw [hdt]
    clear hby hb2 hr1 hdt
    go_wp2_with fail
    have hbw : Below w.heap.size w w2 := (below_alloc_new _).trans (Below.less HBY.out (Nat.le_succ _))
    refine bodyPost_ret (v := .agg #[.bool true, .slice A (limbsN n.natAbs).length c]) (by simp [results, Tryd.results19, go_sem, hy0, hy1]) rfl
      ⟨_, _, _, rfl, ?_, ?_, (hbw.setCell (by simp) _).setCell (by simp) _⟩
    · rw [setCell_size, setCell_size]
      exact ⟨HR2.out.box HBY.out (fun _ => by simp) (fun _ => by simp) _ _, HCAN.out, fun _ h => by have := HZP.out; rw [h] at this; simp at this⟩
    · unfold zI
      rw [HV.out]
      have := HN.out
      simp only [if_true]
      omega
  · have hn : (n.natAbs : Int) = n := by omega
    go_enter Tryd.func19, Tryd.ntmps19
    go_wp2_with fail
    refine (HLO.out _ hn.symm _).mono ?_
    rintro e w1 ⟨A, c, rfl, hr1, hb1⟩
    have X := boxed hb1
    have HB1 := Lib.hid X.2.2.2
    have hs1 := X.2.2.1
    clear X hb1
    have HN := Lib.hid hn
    have HV := Lib.hid hval
    have HCAN := Lib.hid hcan
    clear hn hz0 hzp hval hcan
    go_wp2_with fail
    refine (signed_any _ _ _ _ _).mono ?_
    rintro e w2 ⟨rfl, hb2⟩
    have HR2 := Lib.hid ((hr1.below hb2).more hb2.size)
    have hby := below_then HB1.out hb2 hs1
    have hy0 := (boxed2 hby).1
    have hy1 := (boxed2 hby).2
    have gy0 := boxedF hby 0
    have gy1 := boxedF hby 1
    have HBY := Lib.hid hby
    have hdt : (false && decide (0 < (limbsN n.natAbs).length)) = false := rfl
    rw [hdt]
    clear hby hb2 hr1 hdt
    go_wp2_with fail
    have hbw : Below w.heap.size w w2 := (below_alloc_new _).trans (Below.less HBY.out (Nat.le_succ _))
    refine bodyPost_ret (v := .agg #[.bool false, .slice A (limbsN n.natAbs).length c]) (by simp [results, Tryd.results19, go_sem, hy0, hy1]) rfl
      ⟨_, _, _, rfl, ?_, ?_, (hbw.setCell (by simp) _).setCell (by simp) _⟩
    · rw [setCell_size, setCell_size]
      exact ⟨HR2.out.box HBY.out (fun _ => by simp) (fun _ => by simp) _ _, HCAN.out, fun h => absurd h Bool.false_ne_true⟩
    · unfold zI
      rw [HV.out]
      simp only [Bool.false_eq_true, if_false]
      exact HN.out
end Go.Proofs.YtbfbijokhlkekaaDoor

/- 'commonDivisor'. -/
namespace Go.Proofs.YtbfbijokhlkekaaDoor
open Go.RowKit

/-- The two rows of a round. -/
structure CS (L M : List Nat) (w wr : World) (A1 : Option Addr) (c1 : Nat) (C : List Nat) (A2 : Option Addr) (c2 : Nat) (D : List Nat) : Prop where
  r1 : Row .u32 wr wr.heap.size A1 c1 C
  r2 : Row .u32 wr wr.heap.size A2 c2 D
  k1 : Canon C
  k2 : Canon D
  le : val9 D ≤ val9 C
  g : Nat.gcd (val9 C) (val9 D) = Nat.gcd (val9 L) (val9 M)
  lc : C.length ≤ 380000
  bw : Below w.heap.size w wr
/-- What 'commonDivisor' returns. -/
def ComPost (L M : List Nat) (w : World) (e : Ending) (w' : World) : Prop := ∃ A1 c1 R, e = .returned (.slice A1 (List.length R) c1) ∧ Row .u32 w' w'.heap.size A1 c1 R ∧ Canon R ∧ val9 R = Nat.gcd (val9 L) (val9 M) ∧ List.length R ≤ L.length + M.length ∧ Below w.heap.size w w'
theorem gcd_len {L M R : List Nat} (hL : Canon L) (hM : Canon M) (hR : Canon R) (h : val9 R = Nat.gcd (val9 L) (val9 M)) : R.length ≤ L.length + M.length := by
  rcases Nat.eq_zero_or_pos (val9 L) with h0 | h0
  · have : val9 R = val9 M := by rw [h, h0, Nat.gcd_zero_left]
    have := canon_len hM hR (by omega)
    omega
  · have : val9 R ≤ val9 L := by rw [h]; exact Nat.gcd_le_left _ h0
    have := canon_len hL hR this
    omega
theorem cs_step {L M C D C2 D2 : List Nat} {w wr w2 : World} {A1 A2 A3 A4 : Option Addr} {c1 c2 c3 c4 : Nat} (h : CS L M w wr A1 c1 C A2 c2 D) (i1 : Row .u32 w2 w2.heap.size A3 c3 C2) (i2 : Row .u32 w2 w2.heap.size A4 c4 D2)
    (i3 : Canon C2) (i4 : Canon D2) (i5 : val9 D2 ≤ val9 C2) (i6 : Nat.gcd (val9 C2) (val9 D2) = Nat.gcd (val9 C) (val9 D)) (i7 : C2.length ≤ C.length) (i8 : Below wr.heap.size wr w2) : CS L M w w2 A3 c3 C2 A4 c4 D2 :=
  ⟨i1, i2, i3, i4, i5, i6.trans h.g, Nat.le_trans i7 h.lc, below_then h.bw i8 h.bw.size⟩
theorem val2 {D : List Nat} (h : Lim D) (hl : D.length ≤ 2) : val9 D ≤ 1000000000000000000 := by
  have h1 := valB_lt h
  have h2 : (1000000000 : Nat) ^ D.length ≤ 1000000000 ^ 2 := Nat.pow_le_pow_right (by omega) hl
  have h3 : (1000000000 : Nat) ^ 2 = 1000000000000000000 := by decide
  unfold val9
  omega

set_option maxRecDepth 20000 in
set_option maxHeartbeats 3200000 in
theorem comDiv_any (A A' : Option Addr) (c c' : Nat) (L M : List Nat) (w : World) (hl : L.length ≤ 380000) (hm : M.length ≤ 380000)
    (hL : Canon L) (hM : Canon M) (hR : Row .u32 w w.heap.size A c L) (hR' : Row .u32 w w.heap.size A' c' M) :
    Calls Tryd.prog 61 #[.slice A L.length c, .slice A' M.length c'] w (ComPost L M w) := by
  have hcmp := compare_row A A' c c' L M w (by omega) (by omega) hR hR' hL hM
  have hfin : ∀ W A1 c1 R, Row .u32 W W.heap.size A1 c1 R → Canon R → val9 R = Nat.gcd (val9 L) (val9 M) → Below w.heap.size w W → ComPost L M w (.returned (.slice A1 (List.length R) c1)) W :=
    fun W A1 c1 R k1 k2 k3 k4 => ⟨A1, c1, R, rfl, k1, k2, k3, gcd_len hL hM k2 k3, k4⟩
  have hst1 : ∀ n, val9 M ≤ val9 L → CS L M w (w.drewN n) A c L A' c' M := fun n h => ⟨hR.drewN n, hR'.drewN n, hL, hM, h, rfl, hl, below_drewN (Below.refl _ _) n⟩
  have hst2 : ∀ n, val9 L ≤ val9 M → CS L M w (w.drewN n) A' c' M A c L := fun n h => ⟨hR'.drewN n, hR.drewN n, hM, hL, h, Nat.gcd_comm _ _, hm, below_drewN (Below.refl _ _) n⟩
  have HFIN := Lib.hid hfin
  have HST1 := Lib.hid hst1
  have HST2 := Lib.hid hst2
  have HCMP := Lib.hid hcmp
  clear hfin hst1 hst2 hcmp hR hR' hL hM
  have hcases : (decide (cmpZ (val9 L) (val9 M) < 0) = true ∧ Hid (val9 L ≤ val9 M)) ∨ (decide (cmpZ (val9 L) (val9 M) < 0) = false ∧ Hid (val9 M ≤ val9 L)) := by
    rcases Nat.lt_or_ge (val9 L) (val9 M) with h | h
    · exact Or.inl ⟨cmpZ_lt h, Nat.le_of_lt h⟩
    · exact Or.inr ⟨cmpZ_ge h, h⟩
  generalize cmpZ (val9 L) (val9 M) = cc at *
  generalize hll : L.length = ll at *
  generalize hlm : M.length = lm at *
  have HLL := Lib.hid hll
  have HLM := Lib.hid hlm
  clear hll hlm
  rcases hcases with ⟨hd, hle⟩ | ⟨hd, hle⟩
  all_goals
    go_enter Tryd.func61, Tryd.ntmps61
    go_wp2_with fail
    refine HCMP.out.mono ?_
    rintro e w1 ⟨rfl, n, rfl⟩
    go_wp2_with fail
    clear hd
    go_loopw [0, 1] (fun av bv wr => ∃ A1 c1 C A2 c2 D, av = .slice A1 (List.length C) c1 ∧ bv = .slice A2 (List.length D) c2 ∧ Hid (CS L M w wr A1 c1 C A2 c2 D)) (fun av bv wr => val9 (readRow wr av) + val9 (readRow wr bv))
    case atStart =>
      first
      | exact ⟨A, c, L, A', c', M, by rw [HLL.out], by rw [HLM.out], HST1.out _ hle.out⟩
      | exact ⟨A', c', M, A, c, L, by rw [HLM.out], by rw [HLL.out], HST2.out _ hle.out⟩
    case round =>
      obtain ⟨A1, c1, C, A2, c2, D, rfl, rfl, hcs⟩ := hrel
      have hcl := hcs.out.lc
      have hdl := canon_len hcs.out.k1 hcs.out.k2 hcs.out.le
      have hm1 := congrArg val9 (readRow_row hcs.out.r1)
      have hm2 := congrArg val9 (readRow_row hcs.out.r2)
      have hred : 3 ≤ D.length → Calls Tryd.prog 71 #[.slice A1 C.length c1, .slice A2 D.length c2] wr (RedPost C D wr) := fun h3 =>
        reduce_any A1 A2 c1 c2 (C.length - 3) C D wr (by omega) (by omega) h3 hcs.out.k1 hcs.out.k2 hcs.out.le hcs.out.r1 hcs.out.r2
      have hcop := copied_any A1 c1 C wr (by omega) hcs.out.r1
      have hdiv : 0 < D.length → Calls Tryd.prog 59 #[.slice A1 C.length c1, .slice A2 D.length c2] wr (DivPost C D wr) := fun h0 =>
        divide_any A1 A2 c1 c2 C D wr (by omega) (by omega) h0 hcs.out.k1 hcs.out.k2 hcs.out.r1 hcs.out.r2
      have hword : ∀ W, D.length ≤ 2 → Below wr.heap.size wr W → Calls Tryd.prog 49 #[.slice A2 D.length c2] W fun e w' => e = .returned (.int .u64 (val9 D)) ∧ W = w' := fun W h2 hb =>
        wordOf_any A2 c2 D W (by omega) (by have := val2 hcs.out.k2.lim h2; omega) (hcs.out.r2.up hb) hcs.out.k2.lim
      have hzero : D.length = 0 → val9 C = Nat.gcd (val9 L) (val9 M) := fun h0 => by
        rw [← hcs.out.g, val9_nil h0, Nat.gcd_zero_right]
      have HM1 := Lib.hid hm1
      have HM2 := Lib.hid hm2
      have HRED := Lib.hid hred
      have HCOP := Lib.hid hcop
      have HDIV := Lib.hid hdiv
      have HWORD := Lib.hid hword
      have HZERO := Lib.hid hzero
      clear hm1 hm2 hred hcop hdiv hword hzero
      generalize hlc : C.length = lc at *
      generalize hld : D.length = ld at *
      have HLC := Lib.hid hlc
      have HLD := Lib.hid hld
      clear hlc hld
      rcases Nat.lt_or_ge 2 ld with h3 | h2
      · have h3i : (2 : Int) < (ld : Int) := by omega
        have hr := HRED.out h3
        have HR3 := Lib.hid hr
        clear hr HRED HCOP HDIV HWORD HZERO
        go_wp2_with fail
        refine HR3.out.mono ?_
        rintro e w2 ⟨A3, c3, C2, A4, c4, D2, rfl, i1, i2, i3, i4, i5, i6, i7, i8, i9, i10⟩
        have HN := Lib.hid (cs_step hcs.out i1 i2 i3 i4 i5 i6 (by rw [HLC.out]; rw [HLC.out] at i8; exact i8) i10)
        have HM3 := Lib.hid (congrArg val9 (readRow_row i1))
        have HM4 := Lib.hid (congrArg val9 (readRow_row i2))
        have HM5 := Lib.hid i7
        clear i1 i2 i3 i4 i5 i6 i7 i8 i9 i10
        go_wp2_with fail
        go_roundw
        case rel => exact ⟨A3, c3, C2, A4, c4, D2, rfl, rfl, HN.out⟩
        case measure =>
          show val9 (readRow w2 (.slice A3 (List.length C2) c3)) + val9 (readRow w2 (.slice A4 (List.length D2) c4)) < val9 (readRow wr (.slice A1 lc c1)) + val9 (readRow wr (.slice A2 ld c2))
          rw [HM1.out, HM2.out, HM3.out, HM4.out]
          exact HM5.out
      · rcases Nat.eq_zero_or_pos ld with h0 | h0
        · have hz := HZERO.out h0
          subst h0
          have HZ := Lib.hid hz
          clear hz HRED HDIV HWORD HZERO h2
          go_wp2_with fail
          refine HCOP.out.mono ?_
          rintro e w2 ⟨rfl, hb, hbw⟩
          have HN := Lib.hid (HFIN.out w2 (some ⟨wr.heap.size, 0, none⟩) lc C (Row.ofBlk hb hb.lt (by rw [HLC.out]; exact Nat.le_refl _)) hcs.out.k1 HZ.out (below_then hcs.out.bw hbw hcs.out.bw.size))
          clear hb hbw
          go_wp2_with fail
          go_ret
          have hn := HN.out
          rw [HLC.out] at hn
          exact hn
        · have h0i : (0 : Int) < (ld : Int) := by omega
          have hne : ((ld : Int) == 0) = false := by rw [beq_eq_false_iff_ne]; omega
          have h2i : ¬ (2 : Int) < (ld : Int) := by omega
          have hdv := HDIV.out h0
          have HDV := Lib.hid hdv
          have HW := Lib.hid (fun W => HWORD.out W h2)
          clear hdv HRED HCOP HDIV HWORD HZERO
          go_wp2_with fail
          refine HDV.out.mono ?_
          rintro e w2 ⟨A3, c3, Q, A4, c4, R, rfl, i1, i2, i3, i4, i5, i6, i7, i8, i9⟩
          have hrl := canon_len hcs.out.k2 i4 (Nat.le_of_lt i6)
          rw [HLD.out] at hrl
          have hw4 := wordOf_any A4 c4 R w2 (by omega) (by have := val2 i4.lim (by omega); omega) i2 i4.lim
          have hg0 : Nat.gcd (val9 D) (val9 R) = Nat.gcd (val9 L) (val9 M) := by
            have e1 : val9 R = val9 C % val9 D := by rw [← i5, Nat.mul_comm, Nat.mul_add_mod, Nat.mod_eq_of_lt i6]
            rw [e1, Nat.gcd_comm, ← Nat.gcd_rec, Nat.gcd_comm, hcs.out.g]
          have hv1 := val2 hcs.out.k2.lim (by rw [HLD.out]; omega)
          have hv2 := val2 i4.lim (by omega)
          have hv3 : Nat.gcd (val9 L) (val9 M) ≤ 1000000000000000000 := by
            rw [← hg0]
            exact Nat.le_trans (Nat.gcd_le_left _ (by omega)) hv1
          have hwg := wordGcd_any (val9 D) (val9 R) w2 (by omega) (by omega)
          rw [hg0] at hwg
          have HW4 := Lib.hid hw4
          have HWG := Lib.hid hwg
          have HV3 := Lib.hid hv3
          have HBB := Lib.hid i9
          have HB := Lib.hid (below_then hcs.out.bw i9 hcs.out.bw.size)
          clear i1 i2 i3 i4 i5 i6 i7 i8 i9 hw4 hwg hg0 hv1 hv2 hv3
          go_wp2_with fail
          refine (HW.out _ HBB.out).mono ?_
          rintro e w5 ⟨rfl, rfl⟩
          go_wp2_with fail
          refine HW4.out.mono ?_
          rintro e w5 ⟨rfl, rfl⟩
          go_wp2_with fail
          refine HWG.out.mono ?_
          rintro e w5 ⟨rfl, k, rfl⟩
          go_wp2_with fail
          refine (limbsOf_any _ _ (by have := HV3.out; omega)).mono ?_
          rintro e w5 ⟨A5, c5, rfl, j1, j2⟩
          have HN := Lib.hid (HFIN.out w5 A5 c5 _ j1 (limbsN_canon _) (limbsN_val _) (below_then HB.out (below_undrewN j2) HB.out.size))
          clear j1 j2
          go_wp2_with fail
          go_ret
          exact HN.out
end Go.Proofs.YtbfbijokhlkekaaDoor

/- The limbs of four digits that the reference reads from a text. -/
namespace Go.Proofs.YtbfbijokhlkekaaDoor

theorem snoc_rec {P : List UInt8 → Prop} (h0 : P []) (h1 : ∀ i c, P i → P (i ++ [c])) (l : List UInt8) : P l := by
  suffices H : ∀ n (l : List UInt8), l.length = n → P l from H _ l rfl
  intro n
  induction n with
  | zero => intro l hl; rw [List.eq_nil_of_length_eq_zero hl]; exact h0
  | succ n ih =>
    intro l hl
    have hne : l ≠ [] := by rintro rfl; simp at hl
    rw [← List.dropLast_concat_getLast hne]
    exact h1 _ _ (ih _ (by simp [hl]))
theorem numOf_append (a b : List UInt8) : numOf (a ++ b) = numOf a * 10 ^ b.length + numOf b := by
  refine snoc_rec (P := fun b => numOf (a ++ b) = numOf a * 10 ^ b.length + numOf b) (by simp [numOf]) (fun i c ih => ?_) b
  · rw [← List.append_assoc, numOf_snoc, numOf_snoc, ih, List.length_append, List.length_singleton, Nat.pow_succ, Nat.mul_add, ← Nat.mul_assoc (numOf a), Nat.mul_comm 10 (numOf a * _)]
    omega
theorem numOf_lt {l : List UInt8} (hd : ∀ c ∈ l, isDig c = true) : numOf l < 10 ^ l.length := by
  revert hd
  refine snoc_rec (P := fun l => (∀ c ∈ l, isDig c = true) → numOf l < 10 ^ l.length) (fun _ => by simp [numOf]) (fun i c ih hd => ?_) l
  · have h1 := ih fun x hx => hd x (by simp [hx])
    have h2 := isDig_iff.1 (hd c (by simp))
    rw [numOf_snoc, List.length_append, List.length_singleton, Nat.pow_succ]
    omega
/-- The digits from place a to place b, which is not among them. -/
def seg (D : List UInt8) (a b : Nat) : List UInt8 := (D.take b).drop a
theorem seg_succ {D : List UInt8} {a k : Nat} (ha : a ≤ k) (hk : k < D.length) : numOf (seg D a (k + 1)) = 10 * numOf (seg D a k) + digAt D k := by
  unfold seg
  rw [List.take_succ_eq_append_getElem hk, List.drop_append_of_le_length (by rw [List.length_take]; omega), numOf_snoc]
  simp [digAt, hk]
theorem seg_self (D : List UInt8) (a : Nat) : numOf (seg D a a) = 0 := by
  unfold seg
  rw [List.drop_of_length_le (by rw [List.length_take]; omega)]; rfl
theorem seg_dig {D : List UInt8} (hd : ∀ c ∈ D, isDig c = true) (a b : Nat) : ∀ c ∈ seg D a b, isDig c = true := fun c hc => hd c (List.mem_of_mem_take (List.mem_of_mem_drop hc))
theorem seg_lt {D : List UInt8} (hd : ∀ c ∈ D, isDig c = true) {a b : Nat} (h : b ≤ a + 4) : numOf (seg D a b) < 10000 := by
  have h1 := numOf_lt (seg_dig hd a b)
  have h2 : (seg D a b).length ≤ 4 := by unfold seg; rw [List.length_drop, List.length_take]; omega
  have h3 : (10 : Nat) ^ (seg D a b).length ≤ 10 ^ 4 := Nat.pow_le_pow_right (by omega) h2
  omega
/-- The lowest j limbs. -/
def chunks (D : List UInt8) : Nat → List Nat
  | 0 => []
  | j + 1 => chunks D j ++ [numOf (seg D (D.length - 4 * j - 4) (D.length - 4 * j))]
theorem chunks_len (D : List UInt8) (j : Nat) : (chunks D j).length = j := by
  induction j with
  | zero => rfl
  | succ j ih => simp [chunks, ih]
theorem chunks_lim {D : List UInt8} (hd : ∀ c ∈ D, isDig c = true) (j : Nat) : ∀ d ∈ chunks D j, d < 10000 := by
  induction j with
  | zero => intro d h; cases h
  | succ j ih =>
    intro d h
    rcases List.mem_append.1 h with h | h
    · exact ih d h
    · rw [List.mem_singleton] at h; subst h; exact seg_lt hd (by omega)
theorem chunks_val (D : List UInt8) (j : Nat) : numOf D = valB 10000 (chunks D j) + 10000 ^ j * numOf (D.take (D.length - 4 * j)) := by
  induction j with
  | zero => simp [chunks, valB]
  | succ j ih =>
    rw [ih, chunks, valB_append, chunks_len, Nat.pow_succ]
    have h4 : D.length - 4 * (j + 1) = D.length - 4 * j - 4 := by omega
    rw [h4]
    have hnl : D.length - 4 * j ≤ D.length := by omega
    generalize D.length - 4 * j = n at *
    have hs : numOf (D.take n) = numOf (D.take (n - 4)) * 10000 + numOf (seg D (n - 4) n) := by
      have e : D.take n = D.take (n - 4) ++ seg D (n - 4) n := by
        unfold seg
        have := (List.take_append_drop (n - 4) (D.take n)).symm
        rw [List.take_take, Nat.min_eq_left (by omega)] at this
        exact this
      rw [e, numOf_append]
      by_cases hn : 4 ≤ n
      · have : (seg D (n - 4) n).length = 4 := by unfold seg; rw [List.length_drop, List.length_take]; omega
        rw [this]
      · have h0 : n - 4 = 0 := by omega
        rw [h0]; simp [numOf]
    rw [hs]
    simp only [valB, Nat.mul_zero, Nat.add_zero, Nat.mul_add]
    rw [Nat.mul_comm (numOf (List.take (n - 4) D)) 10000, ← Nat.mul_assoc]
    omega
end Go.Proofs.YtbfbijokhlkekaaDoor

/- The reference's 'Parse'. -/
namespace Go.Proofs.YtbfbijokhlkekaaDoor
open Go.RowKit

theorem size_list (s : ByteArray) : s.data.toList.length = s.size := by simp
theorem neg_cases (s : ByteArray) : (negOf s.data.toList = false ∧ restOf s.data.toList = s.data.toList ∧ (∀ h : 0 < s.size, (s[0]'h).toNat ≠ 45)) ∨
    (negOf s.data.toList = true ∧ restOf s.data.toList = (s.extract 1 s.size).data.toList ∧ ∃ h : 0 < s.size, (s[0]'h).toNat = 45) := by
  have hl := size_list s
  have hg := toList_get s 0
  have he : (s.extract 1 s.size).data.toList = s.data.toList.drop 1 := Lib.extract_to_end s 1
  unfold negOf restOf Lib.trimPrefix
  rcases hs : s.data.toList with _ | ⟨c, r⟩
  · left
    refine ⟨rfl, rfl, fun h => ?_⟩
    rw [hs] at hl; simp at hl; omega
  · have h0 : 0 < s.size := by rw [hs] at hl; simp at hl; omega
    have hc : c = s[0] := by rw [← hg h0]; simp [hs]
    by_cases h45 : c = 45
    · right
      subst h45
      refine ⟨by simp [Lib.hasPrefix], ?_, h0, by rw [← hc]; rfl⟩
      rw [he, hs]
      simp [Lib.hasPrefix]
    · left
      have hp : Lib.hasPrefix (c :: r) [45] = false := by
        simp only [Lib.hasPrefix, List.isPrefixOf, Bool.and_true]; rw [beq_eq_false_iff_ne]; exact fun h => h45 h.symm
      rw [hp]
      refine ⟨rfl, rfl, fun _ => ?_⟩
      rw [← hc]
      intro e
      exact h45 (by apply UInt8.toNat_inj.1; rw [e]; rfl)

/-- What a good text is like. -/
theorem good_facts {l : List UInt8} (h : badNum l = false) : (∀ c ∈ restOf l, isDig c = true) ∧ restOf l ≠ [] ∧ ((restOf l).head? = some 48 → negOf l = false ∧ restOf l = [48]) ∧ (negOf l = true → 0 < numOf (restOf l)) := by
  have hok : okNum (restOf l) = true := by unfold badNum at h; revert h; cases okNum (restOf l) <;> simp
  obtain ⟨h1, h2, h3⟩ := okNum_parts hok
  have h4 : negOf l = true → restOf l ≠ [48] := by
    intro hn e
    unfold badNum at h
    rw [hok, hn, e] at h
    simp at h
  have h5 : negOf l = true → (restOf l).head? ≠ some 48 := by
    intro hn
    rcases h3 with h3 | h3
    · exact absurd h3 (h4 hn)
    · exact h3
  refine ⟨h1, h2, fun hh => ?_, fun hn => numOf_pos h1 h2 (h5 hn)⟩
  rcases h3 with h3 | h3
  · refine ⟨?_, h3⟩
    cases hn : negOf l
    · rfl
    · exact absurd h3 (h4 hn)
  · exact absurd hh h3
theorem head_byte {s : ByteArray} (h : 0 < s.size) : s.data.toList.head? = some (s[0]'h) := by
  have hg := toList_get s 0 h
  rcases hs : s.data.toList with _ | ⟨c, r⟩
  · have := size_list s; rw [hs] at this; simp at this; omega
  · rw [← hg]; simp [hs]
theorem byte_dig (D : ByteArray) (hd : ∀ c ∈ D.data.toList, isDig c = true) (i : Nat) (h : i < D.size) : 48 ≤ (D[i]'h).toNat ∧ (D[i]'h).toNat ≤ 57 ∧ (D[i]'h).toNat - 48 = digAt D.data.toList i := by
  have e := toList_get D i h
  have h1 := isDig_iff.1 (hd _ (List.getElem_mem (by simpa using h : i < D.data.toList.length)))
  rw [e] at h1
  refine ⟨h1.1, h1.2, ?_⟩
  simp only [digAt, List.getD_eq_getElem?_getD, List.getElem?_eq_getElem (by simpa using h : i < D.data.toList.length), Option.getD_some]
  rw [e]

theorem bad_of_digits {l : List UInt8} (h : badNum l = true) (hd : ∀ c ∈ restOf l, isDig c = true) (h0 : restOf l ≠ []) (h48 : (restOf l).head? ≠ some 48) : False := by
  have h1 : (restOf l).all isDig = true := List.all_eq_true.2 hd
  have h2 : (restOf l == [48]) = false := by
    rw [beq_eq_false_iff_ne]; intro e; rw [e] at h48; exact h48 rfl
  have h3 : (restOf l).length ≠ 0 := fun e => h0 (List.eq_nil_of_length_eq_zero e)
  have h4 : ((restOf l).head? != some 48) = true := by rw [bne_iff_ne]; exact h48
  unfold badNum okNum at h
  rw [h1, h2, h4] at h
  have h5 : ((restOf l).length != 0) = true := by rw [bne_iff_ne]; exact h3
  rw [h5] at h
  cases hn : negOf l <;> rw [hn] at h <;> exact absurd h (by decide)
theorem all_dig' (D : ByteArray) (h : ∀ j (h2 : j < D.size), isDig (D[j]'h2) = true) : ∀ c ∈ D.data.toList, isDig c = true := List.all_eq_true.1 (all_dig D fun j _ h2 => h j h2)
end Go.Proofs.YtbfbijokhlkekaaDoor

/- The reference's 'Parse' of a text that is none of an integer. -/
namespace Go.Proofs.YtbfbijokhlkekaaDoor
open Go.RowKit

set_option maxRecDepth 20000 in
set_option maxHeartbeats 1600000 in
theorem rparse_bad (s : ByteArray) (w : World) (hs : s.size ≤ 1000000) (hbad : badNum s.data.toList = true) :
    Calls Tryd.prog 14 #[.string s] w fun e w' => e = .returned (.tuple #[.agg #[.bool false, .slice none 0 0], .int .i64 3]) ∧ Below w.heap.size w w' := by
  rcases neg_cases s with ⟨hn, hr, h0⟩ | ⟨hn, hr, h0, h1⟩
  · rcases Nat.eq_zero_or_pos s.size with hz | hp
    · have hd : decide ((0 : Int) < (s.size : Int)) = false := by rw [decide_eq_false_iff_not]; omega
      have he : ((s.size : Int) == 0) = true := by rw [beq_iff_eq]; omega
      clear hz hr hn h0 hbad
      go_enter Tryd.func14, Tryd.ntmps14
      go_wp2
      exact bodyPost_ret (v := .tuple #[.agg #[.bool false, .slice none 0 0], .int .i64 3]) (by simp [results, Tryd.results14, go_sem]) rfl ⟨rfl, below_alloc_new _⟩
    · have h45 := h0 hp
      have hq : (((s[0]'hp).toNat : Int) == 45) = false := by rw [beq_eq_false_iff_ne]; omega
      have hd : decide ((0 : Int) < (s.size : Int)) = true := by rw [decide_eq_true_iff]; omega
      have he : ((s.size : Int) == 0) = false := by rw [beq_eq_false_iff_ne]; omega
      by_cases h48 : (s[0]'hp).toNat = 48
      · have hb1 : (s.toList == [48]) = false := by
          rw [ByteArray.toList_eq, beq_eq_false_iff_ne]; intro e; rw [e] at hbad; revert hbad; decide
        have hb2 : (((s[0]'hp).toNat : Int) == 48) = true := by rw [beq_iff_eq]; omega
        clear h48 h45 hr hn h0 hbad
        go_enter Tryd.func14, Tryd.ntmps14
        go_wp2
        exact bodyPost_ret (v := .tuple #[.agg #[.bool false, .slice none 0 0], .int .i64 3]) (by simp [results, Tryd.results14, go_sem]) rfl ⟨rfl, below_alloc_new _⟩
      · have hb2 : (((s[0]'hp).toNat : Int) == 48) = false := by rw [beq_eq_false_iff_ne]; omega
        have HBAD : Hid ((∀ c ∈ s.data.toList, isDig c = true) → False) := fun hdg =>
          bad_of_digits hbad (by rw [hr]; exact hdg) (by rw [hr]; intro e; have := size_list s; rw [e] at this; simp at this; omega)
            (by rw [hr, head_byte hp]; intro e; apply h48; have := congrArg (fun (o : Option UInt8) => (o.getD 0).toNat) e; exact this)
        have HSZ : Hid (s.size = s.size) := rfl
        clear h48 h45 hr hn h0 hbad
        go_enter Tryd.func14, Tryd.ntmps14
        go_wp2
        go_loop [5] (fun v => ∃ k : Nat, k ≤ s.size ∧ v = .int .i64 k ∧ Hid (∀ j, j < k → ∀ (h2 : j < s.size), isDig (s[j]'h2) = true)) (fun v => s.size - (intOf v).toNat)
        case atStart => exact ⟨0, Nat.zero_le _, rfl, fun j h => absurd h (by omega)⟩
        case round =>
          obtain ⟨k, hk, rfl, hall⟩ := hrel
          by_cases hlz : k < s.size
          · have hlt : k < s.size := hlz
            by_cases hdg : isDig (s[k]'hlt) = true
            · obtain ⟨b1, b2⟩ := isDig_iff.1 hdg
              have hdq : decide ((((s[k]'hlt).toNat : Nat) : Int) < 48) = false := by rw [decide_eq_false_iff_not]; omega
              have HDG := Lib.hid hdg
              clear hdg
              go_wp2
              go_round
              case rel => exact ⟨k + 1, by omega, by go_num, fun j hj h2 => by
                rcases Nat.lt_succ_iff_lt_or_eq.1 hj with h3 | rfl
                · exact hall.out j h3 h2
                · exact HDG.out⟩
              case measure => simp [intOf]; omega
            · by_cases hl48 : (s[k]'hlt).toNat < 48
              · have hdq : decide ((((s[k]'hlt).toNat : Nat) : Int) < 48) = true := by rw [decide_eq_true_iff]; omega
                clear hdg
                go_wp2
                exact bodyPost_ret (v := .tuple #[.agg #[.bool false, .slice none 0 0], .int .i64 3]) (by simp [results, Tryd.results14, go_sem]) rfl ⟨rfl, below_alloc_new _⟩
              · have hdq : decide ((((s[k]'hlt).toNat : Nat) : Int) < 48) = false := by rw [decide_eq_false_iff_not]; omega
                have h57 : ¬ (s[k]'hlt).toNat ≤ 57 := fun h => hdg (isDig_iff.2 ⟨by omega, h⟩)
                clear hdg
                go_wp2
                exact bodyPost_ret (v := .tuple #[.agg #[.bool false, .slice none 0 0], .int .i64 3]) (by simp [results, Tryd.results14, go_sem]) rfl ⟨rfl, below_alloc_new _⟩
          · exact absurd (HBAD.out (all_dig' s fun j h2 => hall.out j (by have := HSZ.out; omega) h2)) id
  · have hes : (s.extract 1 s.size).size = s.size - 1 := by
      rw [← size_list, Lib.extract_to_end, List.length_drop, size_list]
    have hq : (((s[0]'h0).toNat : Int) == 45) = true := by rw [beq_iff_eq]; omega
    have hd : decide ((0 : Int) < (s.size : Int)) = true := by rw [decide_eq_true_iff]; omega
    rcases Nat.eq_zero_or_pos (s.size - 1) with hz | hp1
    · have he : (((s.size - 1 : Nat) : Int) == 0) = true := by rw [beq_iff_eq]; omega
      clear hz hr hn h1 hbad hes
      go_enter Tryd.func14, Tryd.ntmps14
      go_wp2
      exact bodyPost_ret (v := .tuple #[.agg #[.bool false, .slice none 0 0], .int .i64 3]) (by simp [results, Tryd.results14, go_sem]) rfl ⟨rfl, below_alloc_new _⟩
    · have he : (((s.size - 1 : Nat) : Int) == 0) = false := by rw [beq_eq_false_iff_ne]; omega
      have hps : 0 < (s.extract 1 s.size).size := by omega
      by_cases h48 : ((s.extract 1 s.size)[0]'hps).toNat = 48
      · have hb1 : (s.toList == [48]) = false := by
          rw [ByteArray.toList_eq, beq_eq_false_iff_ne]; intro e
          have := size_list s; rw [e] at this; simp at this; omega
        have hb2 : ((((s.extract 1 s.size)[0]'hps).toNat : Int) == 48) = true := by rw [beq_iff_eq]; omega
        clear h48 h1 hr hn hbad hes
        go_enter Tryd.func14, Tryd.ntmps14
        go_wp2
        exact bodyPost_ret (v := .tuple #[.agg #[.bool false, .slice none 0 0], .int .i64 3]) (by simp [results, Tryd.results14, go_sem]) rfl ⟨rfl, below_alloc_new _⟩
      · have hb2 : ((((s.extract 1 s.size)[0]'hps).toNat : Int) == 48) = false := by rw [beq_eq_false_iff_ne]; omega
        have HBAD : Hid ((∀ c ∈ (s.extract 1 s.size).data.toList, isDig c = true) → False) := fun hdg =>
          bad_of_digits hbad (by rw [hr]; exact hdg) (by rw [hr]; intro e; have := size_list (s.extract 1 s.size); rw [e] at this; simp at this; omega)
            (by rw [hr, head_byte hps]; intro e; apply h48; have := congrArg (fun (o : Option UInt8) => (o.getD 0).toNat) e; exact this)
        have HSZ : Hid ((s.extract 1 s.size).size = s.size - 1) := hes
        clear h48 h1 hr hn hbad hes
        go_enter Tryd.func14, Tryd.ntmps14
        go_wp2
        go_loop [5] (fun v => ∃ k : Nat, k ≤ s.size - 1 ∧ v = .int .i64 k ∧ Hid (∀ j, j < k → ∀ (h2 : j < (s.extract 1 s.size).size), isDig ((s.extract 1 s.size)[j]'h2) = true)) (fun v => (s.size - 1) - (intOf v).toNat)
        case atStart => exact ⟨0, Nat.zero_le _, rfl, fun j h => absurd h (by omega)⟩
        case round =>
          obtain ⟨k, hk, rfl, hall⟩ := hrel
          by_cases hlz : k < s.size - 1
          · have hlt : k < (s.extract 1 s.size).size := (by rw [HSZ.out]; exact hlz)
            by_cases hdg : isDig ((s.extract 1 s.size)[k]'hlt) = true
            · obtain ⟨b1, b2⟩ := isDig_iff.1 hdg
              have hdq : decide (((((s.extract 1 s.size)[k]'hlt).toNat : Nat) : Int) < 48) = false := by rw [decide_eq_false_iff_not]; omega
              have HDG := Lib.hid hdg
              clear hdg
              go_wp2
              go_round
              case rel => exact ⟨k + 1, by omega, by go_num, fun j hj h2 => by
                rcases Nat.lt_succ_iff_lt_or_eq.1 hj with h3 | rfl
                · exact hall.out j h3 h2
                · exact HDG.out⟩
              case measure => simp [intOf]; omega
            · by_cases hl48 : ((s.extract 1 s.size)[k]'hlt).toNat < 48
              · have hdq : decide (((((s.extract 1 s.size)[k]'hlt).toNat : Nat) : Int) < 48) = true := by rw [decide_eq_true_iff]; omega
                clear hdg
                go_wp2
                exact bodyPost_ret (v := .tuple #[.agg #[.bool false, .slice none 0 0], .int .i64 3]) (by simp [results, Tryd.results14, go_sem]) rfl ⟨rfl, below_alloc_new _⟩
              · have hdq : decide (((((s.extract 1 s.size)[k]'hlt).toNat : Nat) : Int) < 48) = false := by rw [decide_eq_false_iff_not]; omega
                have h57 : ¬ ((s.extract 1 s.size)[k]'hlt).toNat ≤ 57 := fun h => hdg (isDig_iff.2 ⟨by omega, h⟩)
                clear hdg
                go_wp2
                exact bodyPost_ret (v := .tuple #[.agg #[.bool false, .slice none 0 0], .int .i64 3]) (by simp [results, Tryd.results14, go_sem]) rfl ⟨rfl, below_alloc_new _⟩
          · exact absurd (HBAD.out (all_dig' (s.extract 1 s.size) fun j h2 => hall.out j (by have := HSZ.out; omega) h2)) id
end Go.Proofs.YtbfbijokhlkekaaDoor

/- The reference's 'Parse' of a text that is too long. -/
namespace Go.Proofs.YtbfbijokhlkekaaDoor
open Go.RowKit

set_option maxRecDepth 20000 in
set_option maxHeartbeats 1600000 in
theorem rparse_long (s : ByteArray) (w : World) (hs : s.size ≤ 1000000) (hbad : badNum s.data.toList = false) (hlong : 2000 < (restOf s.data.toList).length) :
    Calls Tryd.prog 14 #[.string s] w fun e w' => e = .returned (.tuple #[.agg #[.bool false, .slice none 0 0], .int .i64 6]) ∧ Below w.heap.size w w' := by
  obtain ⟨hdig, hne, hhead, _⟩ := good_facts hbad
  have HV := hlong
  clear hlong hbad
  rcases neg_cases s with ⟨hn, hr, h0⟩ | ⟨hn, hr, h0, h1⟩
  · have hp : 0 < s.size := by
      have := List.length_pos_iff.2 hne; rw [hr] at this; simpa using this
    have h45 := h0 hp
    have hq : (((s[0]'hp).toNat : Int) == 45) = false := by rw [beq_eq_false_iff_ne]; omega
    have hd : decide ((0 : Int) < (s.size : Int)) = true := by rw [decide_eq_true_iff]; omega
    have he : ((s.size : Int) == 0) = false := by rw [beq_eq_false_iff_ne]; omega
    have hsl := size_list s
    rw [hr] at hdig hhead HV
    rw [hn] at *
    have hby := byte_dig s hdig
    have HB := Lib.hid hby
    have HDIG := Lib.hid hdig
    have hDs : s.size ≤ s.size := Nat.le_refl _
    have hlt0 : decide ((s.size : Int) < (s.size : Int)) = false := by simp
    rw [size_list] at HV
    clear h45 h0 hby
    by_cases h48 : (s[0]'hp).toNat = 48
    · have hs48 : s.data.toList = [48] := by
        have := (hhead (by rw [head_byte hp]; congr 1; apply UInt8.toNat_inj.1; rw [h48]; rfl)).2
        exact this
      have hb1 : (s.toList == [48]) = true := by rw [ByteArray.toList_eq, hs48]; rfl
      have hb2 : (((s[0]'hp).toNat : Int) == 48) = true := by rw [beq_iff_eq]; omega
      clear hs48 h48 hr hn hdig hhead hne hsl
      go_enter Tryd.func14, Tryd.ntmps14
      go_wp2
      go_loop [5] (fun v => ∃ k : Nat, k ≤ s.size ∧ v = .int .i64 k) (fun v => s.size - (intOf v).toNat)
      case atStart => exact ⟨0, Nat.zero_le _, rfl⟩
      case round =>
        obtain ⟨k, hk, rfl⟩ := hrel
        by_cases hlz : k < s.size
        · have hlt : k < s.size := hlz
          obtain ⟨b1, b2, _⟩ := HB.out k hlt
          have hdq : decide ((((s[k]'hlt).toNat : Nat) : Int) < 48) = false := by rw [decide_eq_false_iff_not]; omega
          go_wp2
          go_round
          case rel => exact ⟨k + 1, by omega, by go_num⟩
          case measure => simp [intOf]; omega
        · obtain rfl : k = s.size := by omega
          go_wp2
          refine bodyPost_ret (v := .tuple #[.agg #[.bool false, .slice none 0 0], .int .i64 6]) (by simp [results, Tryd.results14, go_sem]) rfl ⟨rfl, ?_⟩
          exact below_alloc_new _
    · have hb2 : (((s[0]'hp).toNat : Int) == 48) = false := by rw [beq_eq_false_iff_ne]; omega
      clear h48 hr hn hdig hhead hne hsl
      go_enter Tryd.func14, Tryd.ntmps14
      go_wp2
      go_loop [5] (fun v => ∃ k : Nat, k ≤ s.size ∧ v = .int .i64 k) (fun v => s.size - (intOf v).toNat)
      case atStart => exact ⟨0, Nat.zero_le _, rfl⟩
      case round =>
        obtain ⟨k, hk, rfl⟩ := hrel
        by_cases hlz : k < s.size
        · have hlt : k < s.size := hlz
          obtain ⟨b1, b2, _⟩ := HB.out k hlt
          have hdq : decide ((((s[k]'hlt).toNat : Nat) : Int) < 48) = false := by rw [decide_eq_false_iff_not]; omega
          go_wp2
          go_round
          case rel => exact ⟨k + 1, by omega, by go_num⟩
          case measure => simp [intOf]; omega
        · obtain rfl : k = s.size := by omega
          go_wp2
          refine bodyPost_ret (v := .tuple #[.agg #[.bool false, .slice none 0 0], .int .i64 6]) (by simp [results, Tryd.results14, go_sem]) rfl ⟨rfl, ?_⟩
          exact below_alloc_new _
  · have hes : (s.extract 1 s.size).size = s.size - 1 := by
      rw [← size_list, Lib.extract_to_end, List.length_drop, size_list]
    have hps : 0 < (s.extract 1 s.size).size := by
      have := List.length_pos_iff.2 hne; rw [hr] at this; simpa using this
    have hq : (((s[0]'h0).toNat : Int) == 45) = true := by rw [beq_iff_eq]; omega
    have hd : decide ((0 : Int) < (s.size : Int)) = true := by rw [decide_eq_true_iff]; omega
    have hp1 : 0 < s.size - 1 := by omega
    have he : (((s.size - 1 : Nat) : Int) == 0) = false := by rw [beq_eq_false_iff_ne]; omega
    have hb2 : ((((s.extract 1 s.size)[0]'hps).toNat : Int) == 48) = false := by
      rw [beq_eq_false_iff_ne]
      intro e
      have := (hhead (by rw [hr, head_byte hps]; congr 1; apply UInt8.toNat_inj.1; have : ((s.extract 1 s.size)[0]'hps).toNat = 48 := by omega
                         rw [this]; rfl)).1
      rw [this] at hn; cases hn
    rw [hr] at hdig HV
    rw [hn] at *
    have hby := byte_dig (s.extract 1 s.size) hdig
    have HB := Lib.hid hby
    have HDIG := Lib.hid hdig
    have HES := Lib.hid hes
    rw [size_list, hes] at HV
    have hlt0 : decide (((s.size - 1 : Nat) : Int) < (s.size : Int)) = true := by rw [decide_eq_true_iff]; omega
    clear h1 hby hr hn hdig hhead hne hes
    go_enter Tryd.func14, Tryd.ntmps14
    go_wp2
    go_loop [5] (fun v => ∃ k : Nat, k ≤ (s.size - 1) ∧ v = .int .i64 k) (fun v => (s.size - 1) - (intOf v).toNat)
    case atStart => exact ⟨0, Nat.zero_le _, rfl⟩
    case round =>
      obtain ⟨k, hk, rfl⟩ := hrel
      by_cases hlz : k < (s.size - 1)
      · have hlt : k < (s.extract 1 s.size).size := (by rw [HES.out]; exact hlz)
        obtain ⟨b1, b2, _⟩ := HB.out k hlt
        have hdq : decide (((((s.extract 1 s.size)[k]'hlt).toNat : Nat) : Int) < 48) = false := by rw [decide_eq_false_iff_not]; omega
        go_wp2
        go_round
        case rel => exact ⟨k + 1, by omega, by go_num⟩
        case measure => simp [intOf]; omega
      · obtain rfl : k = (s.size - 1) := by omega
        go_wp2
        refine bodyPost_ret (v := .tuple #[.agg #[.bool false, .slice none 0 0], .int .i64 6]) (by simp [results, Tryd.results14, go_sem]) rfl ⟨rfl, ?_⟩
        exact below_alloc_new _

end Go.Proofs.YtbfbijokhlkekaaDoor

/- The reference's 'Parse' of a good text. -/
namespace Go.Proofs.YtbfbijokhlkekaaDoor
open Go.RowKit

theorem info3 : (Tryd.prog.info? 3).map (fun i => (i.zero, i.size, i.bytes)) = some (some (.int .i64 0), 1, 8) := by kernel_rfl

set_option maxRecDepth 20000 in
set_option maxHeartbeats 3200000 in
theorem rparse_ok_plain (s : ByteArray) (w : World) (hn : negOf s.data.toList = false) (hr : restOf s.data.toList = s.data.toList) (h0 : ∀ h : 0 < s.size, (s[0]'h).toNat ≠ 45) (hbad : badNum s.data.toList = false) (hlong : (restOf s.data.toList).length ≤ 2000) :
    Calls Tryd.prog 14 #[.string s] w fun e w' => ∃ A c L, e = .returned (.tuple #[.agg #[.bool (negOf s.data.toList), .slice A L.length c], .int .i64 0]) ∧ RefR w' w'.heap.size (negOf s.data.toList) A c L ∧
      valB 10000 L = numOf (restOf s.data.toList) ∧ L.length ≤ 500 ∧ Below w.heap.size w w' := by
  obtain ⟨i0, hi, hz0, hz1, hz2⟩ := info_parts info3
  obtain ⟨hdig, hne, hhead, hnum⟩ := good_facts hbad
  have HV := hlong
  clear hlong hbad
  have hp : 0 < s.size := by
    have := List.length_pos_iff.2 hne; rw [hr] at this; simpa using this
  have h45 := h0 hp
  have hq : (((s[0]'hp).toNat : Int) == 45) = false := by rw [beq_eq_false_iff_ne]; omega
  have hd : decide ((0 : Int) < (s.size : Int)) = true := by rw [decide_eq_true_iff]; omega
  have he : ((s.size : Int) == 0) = false := by rw [beq_eq_false_iff_ne]; omega
  have hsl := size_list s
  rw [hr] at hdig hhead HV
  rw [hn] at *
  have hby := byte_dig s hdig
  have HB := Lib.hid hby
  have HDIG := Lib.hid hdig
  have hDs : s.size ≤ s.size := Nat.le_refl _
  have hlt0 : decide ((s.size : Int) < (s.size : Int)) = false := by simp
  rw [size_list] at HV
  rw [hr]
  clear h45 h0 hby
  by_cases h48 : (s[0]'hp).toNat = 48
  · have hs48 : s.data.toList = [48] := by
      have := (hhead (by rw [head_byte hp]; congr 1; apply UInt8.toNat_inj.1; rw [h48]; rfl)).2
      exact this
    have hb1 : (s.toList == [48]) = true := by rw [ByteArray.toList_eq, hs48]; rfl
    have hb2 : (((s[0]'hp).toNat : Int) == 48) = true := by rw [beq_iff_eq]; omega
    clear hs48 h48 hr hn hdig hhead hne hsl
    go_enter Tryd.func14, Tryd.ntmps14
    go_wp2
    go_loop [5] (fun v => ∃ k : Nat, k ≤ s.size ∧ v = .int .i64 k) (fun v => s.size - (intOf v).toNat)
    case atStart => exact ⟨0, Nat.zero_le _, rfl⟩
    case round =>
      obtain ⟨k, hk, rfl⟩ := hrel
      by_cases hlz : k < s.size
      · have hlt : k < s.size := hlz
        obtain ⟨b1, b2, _⟩ := HB.out k hlt
        have hdq : decide ((((s[k]'hlt).toNat : Nat) : Int) < 48) = false := by rw [decide_eq_false_iff_not]; omega
        go_wp2
        go_round
        case rel => exact ⟨k + 1, by omega, by go_num⟩
        case measure => simp [intOf]; omega
      · obtain rfl : k = s.size := by omega
        go_wp2
        go_loopw [6, 7] (fun lv ev wr => ∃ (j : Nat) (x : Int), j ≤ (s.size + 3) / 4 ∧ ev = .int .i64 x ∧ Hid (x = (s.size : Int) - 4 * (j : Int)) ∧ Own .i64 3 wr (w.heap.size + 1) lv (chunks s.data.toList j) ∧
          Below (w.heap.size + 1) (w.alloc (.cells #[.bool false, .slice none 0 0] 31)) wr) (fun _ ev _ => (intOf ev + 3).toNat)
        case atStart => exact ⟨0, _, Nat.zero_le _, rfl, by show _ = _; omega, Own.nil _ _ _ _, by have := Below.refl (w.heap.size + 1) (w.alloc (.cells #[.bool false, .slice none 0 0] 31)); exact this⟩
        case round =>
          obtain ⟨j, x, hj, rfl, hx, ho, hbr⟩ := hrel
          have hsr : w.heap.size + 1 ≤ wr.heap.size := by have := hbr.size; simpa using this
          have HO := Lib.hid ho
          clear ho
          by_cases hpos : 0 < x
          · obtain ⟨e, rfl⟩ : ∃ e : Nat, x = (e : Int) := ⟨x.toNat, by omega⟩
            have hme : e ≤ s.size := by have := hx.out; omega
            go_wp2
            have hsl2 := seg_lt HDIG.out (a := e - 4) (b := e) (by omega)
            go_loop [8, 9] (fun nv iv => ∃ k : Nat, e - 4 ≤ k ∧ k ≤ e ∧ iv = .int .i64 k ∧ nv = .int .i64 (numOf (seg s.data.toList (e - 4) k))) (fun _ iv => e - (intOf iv).toNat)
            case atStart => exact ⟨e - 4, Nat.le_refl _, by omega, by congr 1; omega, by rw [seg_self]; rfl⟩
            case round =>
              obtain ⟨k, hk1, hk2, rfl, rfl⟩ := hrel
              have hsk := seg_lt HDIG.out (a := e - 4) (b := k) (by omega)
              by_cases hke : k < e
              · have hlz : k < s.size := by omega
                have hlt : k < s.size := hlz
                obtain ⟨b1, b2, b3⟩ := HB.out k hlt
                have hsg := @seg_succ s.data.toList _ _ hk1 (by rw [size_list]; exact hlt)
                rw [← b3] at hsg
                have HSG := Lib.hid hsg
                clear b3 hsg
                generalize hgg : numOf (seg s.data.toList (e - 4) k) = q at *
                have HGG := Lib.hid hgg
                clear hgg
                go_wp2
                go_round
                case rel => exact ⟨k + 1, by omega, by omega, by go_num, by rw [HSG.out]; congr 1; omega⟩
                case measure => simp [intOf]; omega
              · obtain rfl : k = e := by omega
                clear hsk
                have hlen : (chunks s.data.toList j).length ≤ 100000000 := by rw [chunks_len]; omega
                have HLEN := Lib.hid hlen
                generalize hgg : numOf (seg s.data.toList (k - 4) k) = q at *
                have HGG := Lib.hid hgg
                clear hgg hlen
                go_wp2_with (first
                  | (at_builtin; refine wpList_append_num wr rfl (.tmp 77) (.tmp 79) 29 rfl .i64 (w.heap.size + 1) 3 i0 8 Tryd.underlying29 hi hz0 hz1 hz2 (by omega) u6 _ (by rfl) HO.out _ q ?_ 1 rfl HLEN.out ?_ ?_; (rfl); (exact hsr); intro v2 w2 ho2 hb2)
                  | fail)
                go_roundw
                case rel =>
                  have hxx := hx.out
                  have hc : chunks s.data.toList (j + 1) = chunks s.data.toList j ++ [q] := by
                    rw [chunks, size_list]
                    have e1 : s.size - 4 * j = k := (by omega)
                    rw [e1, HGG.out]
                  exact ⟨j + 1, _, by omega, rfl, by show _ = _; omega, by rw [hc]; exact ho2.out, hbr.trans hb2⟩
                case measure => simp [intOf]; omega
          · have hjj : s.size ≤ 4 * j := by have := hx.out; omega
            obtain ⟨A, c, hv, hrow⟩ := HO.out.row
            subst hv
            have hcl := chunks_len s.data.toList j
            have hcv := chunks_val s.data.toList j
            have hclim := chunks_lim HDIG.out j
            rw [size_list] at hcv
            have hz0' : s.size - 4 * j = 0 := (by omega)
            rw [hz0'] at hcv
            have hcv2 : numOf s.data.toList = valB 10000 (chunks s.data.toList j) := by rw [hcv]; simp [numOf]
            clear hcv hz0'
            have hsgn := fun W h => rsigned_any false A c (chunks s.data.toList j) W (by rw [hcl]; omega) h
            have HSGN := Lib.hid hsgn
            have HCL := Lib.hid hcl
            have HCV := Lib.hid hcv2
            clear hsgn hcl hcv2
            go_wp2_with fail
            refine (HSGN.out wr hrow).mono ?_
            rintro e w4 ⟨rfl, hb4⟩
            have hby : Below (w.heap.size + 1) (w.alloc (Obj.cells #[Value.bool false, Value.slice none 0 0] 31)) w4 := hbr.trans (Below.less hb4 hsr)
            have htv := trimN_val 10000 (chunks s.data.toList j) _ (Nat.le_refl _)
            have htt := trimN_top (chunks s.data.toList j) (chunks s.data.toList j).length
            have htl := trimN_le (chunks s.data.toList j) (chunks s.data.toList j).length
            rw [List.take_of_length_le (Nat.le_refl _), ← HCV.out] at htv
            generalize htm : trimN (chunks s.data.toList j) (chunks s.data.toList j).length = m at *
            have hcl' := HCL.out
            have hrow4 : RefR w4 wr.heap.size false A c ((chunks s.data.toList j).take m) := RefR.below ⟨hrow.take m, fun d hd => hclim d (List.mem_of_mem_take hd), fun h => by
              have el : ((chunks s.data.toList j).take m).length = m := by rw [List.length_take]; omega
              rw [el] at h ⊢; rw [nth_take (by omega)]; exact htt h, fun h => absurd h Bool.false_ne_true⟩ hb4
            have el : ((chunks s.data.toList j).take m).length = m := by rw [List.length_take]; omega
            have hy0 := (boxed2 hby).1
            have hy1 := (boxed2 hby).2
            have gy0 := boxedF hby 0
            have gy1 := boxedF hby 1
            have hbw4 : Below w.heap.size w w4 := (below_alloc_new _).trans (Below.less hby (Nat.le_succ _))
            have hw34 := hb4.size
            have HBY := Lib.hid hby
            have HTV := Lib.hid htv
            have HEL := Lib.hid el
            clear hby hb4 htv el htm htt
            go_wp2_with fail
            refine bodyPost_ret (v := .tuple #[.agg #[.bool false, .slice A m c], .int .i64 0]) (by simp [results, Tryd.results14, go_sem, hy0, hy1]) rfl ⟨A, c, (chunks s.data.toList j).take m, by rw [HEL.out], ?_, HTV.out, by rw [HEL.out]; omega, (hbw4.setCell (by simp) _).setCell (by simp) _⟩
            rw [setCell_size, setCell_size]
            exact ⟨(hrow4.row.more hw34).box HBY.out (fun _ => by simp) (fun _ => by simp) _ _, hrow4.lim, hrow4.top, hrow4.sgn⟩
  · have hb2 : (((s[0]'hp).toNat : Int) == 48) = false := by rw [beq_eq_false_iff_ne]; omega
    clear h48 hr hn hdig hhead hne hsl
    go_enter Tryd.func14, Tryd.ntmps14
    go_wp2
    go_loop [5] (fun v => ∃ k : Nat, k ≤ s.size ∧ v = .int .i64 k) (fun v => s.size - (intOf v).toNat)
    case atStart => exact ⟨0, Nat.zero_le _, rfl⟩
    case round =>
      obtain ⟨k, hk, rfl⟩ := hrel
      by_cases hlz : k < s.size
      · have hlt : k < s.size := hlz
        obtain ⟨b1, b2, _⟩ := HB.out k hlt
        have hdq : decide ((((s[k]'hlt).toNat : Nat) : Int) < 48) = false := by rw [decide_eq_false_iff_not]; omega
        go_wp2
        go_round
        case rel => exact ⟨k + 1, by omega, by go_num⟩
        case measure => simp [intOf]; omega
      · obtain rfl : k = s.size := by omega
        go_wp2
        go_loopw [6, 7] (fun lv ev wr => ∃ (j : Nat) (x : Int), j ≤ (s.size + 3) / 4 ∧ ev = .int .i64 x ∧ Hid (x = (s.size : Int) - 4 * (j : Int)) ∧ Own .i64 3 wr (w.heap.size + 1) lv (chunks s.data.toList j) ∧
          Below (w.heap.size + 1) (w.alloc (.cells #[.bool false, .slice none 0 0] 31)) wr) (fun _ ev _ => (intOf ev + 3).toNat)
        case atStart => exact ⟨0, _, Nat.zero_le _, rfl, by show _ = _; omega, Own.nil _ _ _ _, by have := Below.refl (w.heap.size + 1) (w.alloc (.cells #[.bool false, .slice none 0 0] 31)); exact this⟩
        case round =>
          obtain ⟨j, x, hj, rfl, hx, ho, hbr⟩ := hrel
          have hsr : w.heap.size + 1 ≤ wr.heap.size := by have := hbr.size; simpa using this
          have HO := Lib.hid ho
          clear ho
          by_cases hpos : 0 < x
          · obtain ⟨e, rfl⟩ : ∃ e : Nat, x = (e : Int) := ⟨x.toNat, by omega⟩
            have hme : e ≤ s.size := by have := hx.out; omega
            go_wp2
            have hsl2 := seg_lt HDIG.out (a := e - 4) (b := e) (by omega)
            go_loop [8, 9] (fun nv iv => ∃ k : Nat, e - 4 ≤ k ∧ k ≤ e ∧ iv = .int .i64 k ∧ nv = .int .i64 (numOf (seg s.data.toList (e - 4) k))) (fun _ iv => e - (intOf iv).toNat)
            case atStart => exact ⟨e - 4, Nat.le_refl _, by omega, by congr 1; omega, by rw [seg_self]; rfl⟩
            case round =>
              obtain ⟨k, hk1, hk2, rfl, rfl⟩ := hrel
              have hsk := seg_lt HDIG.out (a := e - 4) (b := k) (by omega)
              by_cases hke : k < e
              · have hlz : k < s.size := by omega
                have hlt : k < s.size := hlz
                obtain ⟨b1, b2, b3⟩ := HB.out k hlt
                have hsg := @seg_succ s.data.toList _ _ hk1 (by rw [size_list]; exact hlt)
                rw [← b3] at hsg
                have HSG := Lib.hid hsg
                clear b3 hsg
                generalize hgg : numOf (seg s.data.toList (e - 4) k) = q at *
                have HGG := Lib.hid hgg
                clear hgg
                go_wp2
                go_round
                case rel => exact ⟨k + 1, by omega, by omega, by go_num, by rw [HSG.out]; congr 1; omega⟩
                case measure => simp [intOf]; omega
              · obtain rfl : k = e := by omega
                clear hsk
                have hlen : (chunks s.data.toList j).length ≤ 100000000 := by rw [chunks_len]; omega
                have HLEN := Lib.hid hlen
                generalize hgg : numOf (seg s.data.toList (k - 4) k) = q at *
                have HGG := Lib.hid hgg
                clear hgg hlen
                go_wp2_with (first
                  | (at_builtin; refine wpList_append_num wr rfl (.tmp 77) (.tmp 79) 29 rfl .i64 (w.heap.size + 1) 3 i0 8 Tryd.underlying29 hi hz0 hz1 hz2 (by omega) u6 _ (by rfl) HO.out _ q ?_ 1 rfl HLEN.out ?_ ?_; (rfl); (exact hsr); intro v2 w2 ho2 hb2)
                  | fail)
                go_roundw
                case rel =>
                  have hxx := hx.out
                  have hc : chunks s.data.toList (j + 1) = chunks s.data.toList j ++ [q] := by
                    rw [chunks, size_list]
                    have e1 : s.size - 4 * j = k := (by omega)
                    rw [e1, HGG.out]
                  exact ⟨j + 1, _, by omega, rfl, by show _ = _; omega, by rw [hc]; exact ho2.out, hbr.trans hb2⟩
                case measure => simp [intOf]; omega
          · have hjj : s.size ≤ 4 * j := by have := hx.out; omega
            obtain ⟨A, c, hv, hrow⟩ := HO.out.row
            subst hv
            have hcl := chunks_len s.data.toList j
            have hcv := chunks_val s.data.toList j
            have hclim := chunks_lim HDIG.out j
            rw [size_list] at hcv
            have hz0' : s.size - 4 * j = 0 := (by omega)
            rw [hz0'] at hcv
            have hcv2 : numOf s.data.toList = valB 10000 (chunks s.data.toList j) := by rw [hcv]; simp [numOf]
            clear hcv hz0'
            have hsgn := fun W h => rsigned_any false A c (chunks s.data.toList j) W (by rw [hcl]; omega) h
            have HSGN := Lib.hid hsgn
            have HCL := Lib.hid hcl
            have HCV := Lib.hid hcv2
            clear hsgn hcl hcv2
            go_wp2_with fail
            refine (HSGN.out wr hrow).mono ?_
            rintro e w4 ⟨rfl, hb4⟩
            have hby : Below (w.heap.size + 1) (w.alloc (Obj.cells #[Value.bool false, Value.slice none 0 0] 31)) w4 := hbr.trans (Below.less hb4 hsr)
            have htv := trimN_val 10000 (chunks s.data.toList j) _ (Nat.le_refl _)
            have htt := trimN_top (chunks s.data.toList j) (chunks s.data.toList j).length
            have htl := trimN_le (chunks s.data.toList j) (chunks s.data.toList j).length
            rw [List.take_of_length_le (Nat.le_refl _), ← HCV.out] at htv
            generalize htm : trimN (chunks s.data.toList j) (chunks s.data.toList j).length = m at *
            have hcl' := HCL.out
            have hrow4 : RefR w4 wr.heap.size false A c ((chunks s.data.toList j).take m) := RefR.below ⟨hrow.take m, fun d hd => hclim d (List.mem_of_mem_take hd), fun h => by
              have el : ((chunks s.data.toList j).take m).length = m := by rw [List.length_take]; omega
              rw [el] at h ⊢; rw [nth_take (by omega)]; exact htt h, fun h => absurd h Bool.false_ne_true⟩ hb4
            have el : ((chunks s.data.toList j).take m).length = m := by rw [List.length_take]; omega
            have hy0 := (boxed2 hby).1
            have hy1 := (boxed2 hby).2
            have gy0 := boxedF hby 0
            have gy1 := boxedF hby 1
            have hbw4 : Below w.heap.size w w4 := (below_alloc_new _).trans (Below.less hby (Nat.le_succ _))
            have hw34 := hb4.size
            have HBY := Lib.hid hby
            have HTV := Lib.hid htv
            have HEL := Lib.hid el
            clear hby hb4 htv el htm htt
            go_wp2_with fail
            refine bodyPost_ret (v := .tuple #[.agg #[.bool false, .slice A m c], .int .i64 0]) (by simp [results, Tryd.results14, go_sem, hy0, hy1]) rfl ⟨A, c, (chunks s.data.toList j).take m, by rw [HEL.out], ?_, HTV.out, by rw [HEL.out]; omega, (hbw4.setCell (by simp) _).setCell (by simp) _⟩
            rw [setCell_size, setCell_size]
            exact ⟨(hrow4.row.more hw34).box HBY.out (fun _ => by simp) (fun _ => by simp) _ _, hrow4.lim, hrow4.top, hrow4.sgn⟩
end Go.Proofs.YtbfbijokhlkekaaDoor

/- The reference's 'Parse' of a good text. -/
namespace Go.Proofs.YtbfbijokhlkekaaDoor
open Go.RowKit


set_option maxRecDepth 20000 in
set_option maxHeartbeats 3200000 in
theorem rparse_ok_neg (s : ByteArray) (w : World) (hn : negOf s.data.toList = true) (hr : restOf s.data.toList = (s.extract 1 s.size).data.toList) (h0 : 0 < s.size) (h1 : (s[0]'h0).toNat = 45) (hbad : badNum s.data.toList = false) (hlong : (restOf s.data.toList).length ≤ 2000) :
    Calls Tryd.prog 14 #[.string s] w fun e w' => ∃ A c L, e = .returned (.tuple #[.agg #[.bool (negOf s.data.toList), .slice A L.length c], .int .i64 0]) ∧ RefR w' w'.heap.size (negOf s.data.toList) A c L ∧
      valB 10000 L = numOf (restOf s.data.toList) ∧ L.length ≤ 500 ∧ Below w.heap.size w w' := by
  obtain ⟨i0, hi, hz0, hz1, hz2⟩ := info_parts info3
  obtain ⟨hdig, hne, hhead, hnum⟩ := good_facts hbad
  have HV := hlong
  clear hlong hbad
  obtain ⟨D, hD⟩ : ∃ D, D = s.extract 1 s.size := ⟨_, rfl⟩
  obtain ⟨D, hD⟩ : ∃ D, D = s.extract 1 s.size := ⟨_, rfl⟩
  obtain ⟨D, hD⟩ : ∃ D, D = s.extract 1 s.size := ⟨_, rfl⟩
  obtain ⟨D, hD⟩ : ∃ D, D = s.extract 1 s.size := ⟨_, rfl⟩
  have hes : D.size = s.size - 1 := by
    rw [hD, ← size_list, Lib.extract_to_end, List.length_drop, size_list]
  have hr' : restOf s.data.toList = D.data.toList := by rw [hr, hD]
  have hps : 0 < D.size := by
    have := List.length_pos_iff.2 hne; rw [hr'] at this; simpa using this
  have hq : (((s[0]'h0).toNat : Int) == 45) = true := by rw [beq_iff_eq]; omega
  have hd : decide ((0 : Int) < (s.size : Int)) = true := by rw [decide_eq_true_iff]; omega
  have he : ((D.size : Int) == 0) = false := by rw [beq_eq_false_iff_ne]; omega
  have hb2 : (((D[0]'hps).toNat : Int) == 48) = false := by
    rw [beq_eq_false_iff_ne]
    intro e
    have := (hhead (by rw [hr', head_byte hps]; congr 1; apply UInt8.toNat_inj.1; have : (D[0]'hps).toNat = 48 := by omega
                       rw [this]; rfl)).1
    rw [this] at hn; cases hn
  rw [hr'] at hdig HV hnum
  rw [hn] at *
  have hby := byte_dig D hdig
  have HB := Lib.hid hby
  have HDIG := Lib.hid hdig
  have HES := Lib.hid hes
  rw [size_list] at HV
  have HNUM := Lib.hid (hnum (by first | exact hn | rfl))
  clear hnum
  rw [hr']
  have hlt0 : decide ((D.size : Int) < (s.size : Int)) = true := by rw [decide_eq_true_iff]; omega
  have hlt1 : D.size < s.size := by omega
  have hs1 : 1 ≤ s.size := h0
  have hs2 : s.size ≤ 2001 := by omega
  have HD := Lib.hid hD
  clear h1 hby hr hr' hn hdig hhead hne hes hD
  go_enter Tryd.func14, Tryd.ntmps14
  go_upto_region 3 with fail
  go_cut [4] from 19 to 20 (fun v wx => v = .string D ∧ w.alloc (.cells #[.bool false, .slice none 0 0] 31) = wx)
  case first =>
    go_wp2
    go_meet
    exact ⟨by rw [HD.out], rfl⟩
  case rest =>
  obtain ⟨rfl, rfl⟩ := hcut
  go_wp2
  go_loop [5] (fun v => ∃ k : Nat, k ≤ D.size ∧ v = .int .i64 k) (fun v => D.size - (intOf v).toNat)
  case atStart => exact ⟨0, Nat.zero_le _, rfl⟩
  case round =>
    obtain ⟨k, hk, rfl⟩ := hrel
    by_cases hlz : k < D.size
    · have hlt : k < D.size := hlz
      obtain ⟨b1, b2, _⟩ := HB.out k hlt
      have hdq : decide ((((D[k]'hlt).toNat : Nat) : Int) < 48) = false := by rw [decide_eq_false_iff_not]; omega
      go_wp2
      go_round
      case rel => exact ⟨k + 1, by omega, by go_num⟩
      case measure => simp [intOf]; omega
    · obtain rfl : k = D.size := by omega
      go_wp2
      go_loopw [6, 7] (fun lv ev wr => ∃ (j : Nat) (x : Int), j ≤ (D.size + 3) / 4 ∧ ev = .int .i64 x ∧ Hid (x = (D.size : Int) - 4 * (j : Int)) ∧ Own .i64 3 wr (w.heap.size + 1) lv (chunks D.data.toList j) ∧
        Below (w.heap.size + 1) (w.alloc (.cells #[.bool false, .slice none 0 0] 31)) wr) (fun _ ev _ => (intOf ev + 3).toNat)
      case atStart => exact ⟨0, _, Nat.zero_le _, rfl, by show _ = _; omega, Own.nil _ _ _ _, by have := Below.refl (w.heap.size + 1) (w.alloc (.cells #[.bool false, .slice none 0 0] 31)); exact this⟩
      case round =>
        obtain ⟨j, x, hj, rfl, hx, ho, hbr⟩ := hrel
        have hsr : w.heap.size + 1 ≤ wr.heap.size := by have := hbr.size; simpa using this
        have HO := Lib.hid ho
        clear ho
        by_cases hpos : 0 < x
        · obtain ⟨e, rfl⟩ : ∃ e : Nat, x = (e : Int) := ⟨x.toNat, by omega⟩
          have hme : e ≤ D.size := by have := hx.out; omega
          go_wp2
          have hsl2 := seg_lt HDIG.out (a := e - 4) (b := e) (by omega)
          go_loop [8, 9] (fun nv iv => ∃ k : Nat, e - 4 ≤ k ∧ k ≤ e ∧ iv = .int .i64 k ∧ nv = .int .i64 (numOf (seg D.data.toList (e - 4) k))) (fun _ iv => e - (intOf iv).toNat)
          case atStart => exact ⟨e - 4, Nat.le_refl _, by omega, by congr 1; omega, by rw [seg_self]; rfl⟩
          case round =>
            obtain ⟨k, hk1, hk2, rfl, rfl⟩ := hrel
            have hsk := seg_lt HDIG.out (a := e - 4) (b := k) (by omega)
            by_cases hke : k < e
            · have hlz : k < D.size := by omega
              have hlt : k < D.size := hlz
              obtain ⟨b1, b2, b3⟩ := HB.out k hlt
              have hsg := @seg_succ D.data.toList _ _ hk1 (by rw [size_list]; exact hlt)
              rw [← b3] at hsg
              have HSG := Lib.hid hsg
              clear b3 hsg
              generalize hgg : numOf (seg D.data.toList (e - 4) k) = q at *
              have HGG := Lib.hid hgg
              clear hgg
              go_wp2
              go_round
              case rel => exact ⟨k + 1, by omega, by omega, by go_num, by rw [HSG.out]; congr 1; omega⟩
              case measure => simp [intOf]; omega
            · obtain rfl : k = e := by omega
              clear hsk
              have hlen : (chunks D.data.toList j).length ≤ 100000000 := by rw [chunks_len]; omega
              have HLEN := Lib.hid hlen
              generalize hgg : numOf (seg D.data.toList (k - 4) k) = q at *
              have HGG := Lib.hid hgg
              clear hgg hlen
              go_wp2_with (first
                | (at_builtin; refine wpList_append_num wr rfl (.tmp 77) (.tmp 79) 29 rfl .i64 (w.heap.size + 1) 3 i0 8 Tryd.underlying29 hi hz0 hz1 hz2 (by omega) u6 _ (by rfl) HO.out _ q ?_ 1 rfl HLEN.out ?_ ?_; (rfl); (exact hsr); intro v2 w2 ho2 hb2)
                | fail)
              go_roundw
              case rel =>
                have hxx := hx.out
                have hc : chunks D.data.toList (j + 1) = chunks D.data.toList j ++ [q] := by
                  rw [chunks, size_list]
                  have e1 : D.size - 4 * j = k := (by omega)
                  rw [e1, HGG.out]
                exact ⟨j + 1, _, by omega, rfl, by show _ = _; omega, by rw [hc]; exact ho2.out, hbr.trans hb2⟩
              case measure => simp [intOf]; omega
        · have hjj : D.size ≤ 4 * j := by have := hx.out; omega
          obtain ⟨A, c, hv, hrow⟩ := HO.out.row
          subst hv
          have hcl := chunks_len D.data.toList j
          have hcv := chunks_val D.data.toList j
          have hclim := chunks_lim HDIG.out j
          rw [size_list] at hcv
          have hz0' : D.size - 4 * j = 0 := (by omega)
          rw [hz0'] at hcv
          have hcv2 : numOf D.data.toList = valB 10000 (chunks D.data.toList j) := by rw [hcv]; simp [numOf]
          clear hcv hz0'
          have hsgn := fun W h => rsigned_any true A c (chunks D.data.toList j) W (by rw [hcl]; omega) h
          have HSGN := Lib.hid hsgn
          have HCL := Lib.hid hcl
          have HCV := Lib.hid hcv2
          clear hsgn hcl hcv2
          go_wp2_with fail
          refine (HSGN.out wr hrow).mono ?_
          rintro e w4 ⟨rfl, hb4⟩
          have hby : Below (w.heap.size + 1) (w.alloc (Obj.cells #[Value.bool false, Value.slice none 0 0] 31)) w4 := hbr.trans (Below.less hb4 hsr)
          have htv := trimN_val 10000 (chunks D.data.toList j) _ (Nat.le_refl _)
          have htt := trimN_top (chunks D.data.toList j) (chunks D.data.toList j).length
          have htl := trimN_le (chunks D.data.toList j) (chunks D.data.toList j).length
          rw [List.take_of_length_le (Nat.le_refl _), ← HCV.out] at htv
          generalize htm : trimN (chunks D.data.toList j) (chunks D.data.toList j).length = m at *
          have hcl' := HCL.out
          have hmp : 0 < m := by
            rcases Nat.eq_zero_or_pos m with h | h
            · rw [h] at htv; simp [valB] at htv; have := HNUM.out; omega
            · exact h
          have hrow4 : RefR w4 wr.heap.size true A c ((chunks D.data.toList j).take m) := RefR.below ⟨hrow.take m, fun d hd => hclim d (List.mem_of_mem_take hd), fun h => by
            have el : ((chunks D.data.toList j).take m).length = m := by rw [List.length_take]; omega
            rw [el] at h ⊢; rw [nth_take (by omega)]; exact htt h, fun _ h => by have h9 := congrArg List.length h; rw [List.length_take, Nat.min_eq_left (by omega)] at h9; have h8 : m = 0 := h9; omega⟩ hb4
          have el : ((chunks D.data.toList j).take m).length = m := by rw [List.length_take]; omega
          have hd0 : (true && decide (0 < m)) = true := by simpa using hmp
          rw [hd0]
          clear hd0
          have hy0 := (boxed2 hby).1
          have hy1 := (boxed2 hby).2
          have gy0 := boxedF hby 0
          have gy1 := boxedF hby 1
          have hbw4 : Below w.heap.size w w4 := (below_alloc_new _).trans (Below.less hby (Nat.le_succ _))
          have hw34 := hb4.size
          have HBY := Lib.hid hby
          have HTV := Lib.hid htv
          have HEL := Lib.hid el
          clear hby hb4 htv el htm htt
          go_wp2_with fail
          refine bodyPost_ret (v := .tuple #[.agg #[.bool true, .slice A m c], .int .i64 0]) (by simp [results, Tryd.results14, go_sem, hy0, hy1]) rfl ⟨A, c, (chunks D.data.toList j).take m, by rw [HEL.out], ?_, HTV.out, by rw [HEL.out]; omega, (hbw4.setCell (by simp) _).setCell (by simp) _⟩
          rw [setCell_size, setCell_size]
          exact ⟨(hrow4.row.more hw34).box HBY.out (fun _ => by simp) (fun _ => by simp) _ _, hrow4.lim, hrow4.top, hrow4.sgn⟩
end Go.Proofs.YtbfbijokhlkekaaDoor

/- The statement about 'Parse' holds at every text. -/
namespace Go.Proofs.YtbfbijokhlkekaaDoor
open Go.RowKit

/-- Any text: what the reference's 'Parse' returns. -/
theorem rparse_any (s : ByteArray) (w : World) (hs : s.size ≤ 1000000) :
    Calls Tryd.prog 14 #[.string s] w fun e w' => ∃ k A c L, e = .returned (.tuple #[.agg #[.bool k, .slice A L.length c], .int .i64 (errOf s.data.toList)]) ∧ RefR w' w'.heap.size k A c L ∧ L.length ≤ 500 ∧
      Hid (errOf s.data.toList = 0 → k = negOf s.data.toList ∧ valB 10000 L = numOf (restOf s.data.toList)) ∧ Hid (errOf s.data.toList ≠ 0 → k = false ∧ L = []) ∧ Below w.heap.size w w' := by
  unfold errOf
  by_cases hb : badNum s.data.toList = true
  · rw [if_pos hb]
    refine (rparse_bad s w hs hb).mono ?_
    rintro e w' ⟨rfl, hbw⟩
    exact ⟨false, none, 0, [], rfl, RefR.zero _ _ _ _, by simp, fun h => absurd h (by decide), fun _ => ⟨rfl, rfl⟩, hbw⟩
  · rw [if_neg hb]
    rw [Bool.not_eq_true] at hb
    by_cases hl : 2000 < (restOf s.data.toList).length
    · rw [if_pos hl]
      refine (rparse_long s w hs hb hl).mono ?_
      rintro e w' ⟨rfl, hbw⟩
      exact ⟨false, none, 0, [], rfl, RefR.zero _ _ _ _, by simp, fun h => absurd h (by decide), fun _ => ⟨rfl, rfl⟩, hbw⟩
    · rw [if_neg hl]
      have hc : Calls Tryd.prog 14 #[.string s] w fun e w' => ∃ A c L, e = .returned (.tuple #[.agg #[.bool (negOf s.data.toList), .slice A L.length c], .int .i64 0]) ∧ RefR w' w'.heap.size (negOf s.data.toList) A c L ∧
          valB 10000 L = numOf (restOf s.data.toList) ∧ L.length ≤ 500 ∧ Below w.heap.size w w' := by
        rcases neg_cases s with ⟨h1, h2, h3⟩ | ⟨h1, h2, h3, h4⟩
        · exact rparse_ok_plain s w h1 h2 h3 hb (by omega)
        · exact rparse_ok_neg s w h1 h2 h3 h4 hb (by omega)
      refine hc.mono ?_
      rintro e w' ⟨A, c, L, rfl, hi, hv, hn, hbw⟩
      exact ⟨_, A, c, L, rfl, hi, hn, fun _ => ⟨rfl, hv⟩, fun h => absurd rfl h, hbw⟩

theorem errOf_good {l : List UInt8} (h : errOf l = 0) : badNum l = false := by
  unfold errOf at h
  split at h
  · cases h
  · rename_i h1; simpa using h1
theorem text_back {l : List UInt8} (h : errOf l = 0) : decI (negOf l) (numOf (restOf l)) = l := by
  obtain ⟨h1, h2, h3, _⟩ := good_facts (errOf_good h)
  unfold decI
  rw [dec_numOf _ h1 h2 (by
    by_cases hh : (restOf l).head? = some 48
    · exact .inl (h3 hh).2
    · exact .inr hh)]
  unfold negOf restOf Lib.trimPrefix
  cases hp : Lib.hasPrefix l [45]
  · simp
  · simp only [if_true]
    rcases l with _ | ⟨c, r⟩
    · simp [Lib.hasPrefix] at hp
    · simp [Lib.hasPrefix] at hp
      simp [← hp]

theorem up4 {w wk : World} {o : Obj} (h : Below (w.heap.size + 1) (w.alloc o) wk) : Below w.heap.size w wk := (below_alloc_new _).trans (Below.less h (Nat.le_succ _))
theorem below_sz {w wk : World} {o : Obj} (h : Below (w.heap.size + 1) (w.alloc o) wk) : w.heap.size + 1 ≤ wk.heap.size := by have := h.size; simpa using this
theorem below_at {B b i : Nat} {W wk : World} (h : Below B W wk) (hb : b < B) : wk.cell? ⟨b, i, none⟩ = W.cell? ⟨b, i, none⟩ := h.cell hb
theorem ref_pos {w : World} {B : Nat} {n : Bool} {A : Option Addr} {c : Nat} {M : List Nat} (h : RefR w B n A c M) (h0 : 0 < M.length) : valB 10000 M ≠ 0 := by
  have h1 := valB_take_succ 10000 M (M.length - 1) (by omega)
  rw [show M.length - 1 + 1 = M.length by omega, List.take_of_length_le (Nat.le_refl _)] at h1
  have h2 := h.top h0
  have h3 : 10000 ^ (M.length - 1) * 1 ≤ 10000 ^ (M.length - 1) * nth M (M.length - 1) := Nat.mul_le_mul_left _ (by omega)
  have h4 : 0 < 10000 ^ (M.length - 1) := Nat.pow_pos (by omega)
  omega

set_option maxRecDepth 20000 in
set_option maxHeartbeats 6400000 in
theorem law_parse (s : ByteArray) (w : World) (ht : Tab w.heap.size w) :
    Calls Tryd.prog 3 #[.string s] w fun e w' => e = .returned (.bool true) ∧ Below w.heap.size w w' := by
  have HT := Lib.hid ht
  clear ht
  by_cases hs : 2500 < s.size
  · go_enter Tryd.func3, Tryd.ntmps3
    go_wp2_with fail
    refine (awake_any w HT.out).mono ?_
    rintro e w1 ⟨rfl, hb1⟩
    go_wp2_with fail
    go_ret
    exact ⟨rfl, hb1⟩
  · have hP := fun W => parse_any s W (by omega)
    have hQ := fun W => rparse_any s W (by omega)
    have HP := Lib.hid hP
    have HQ := Lib.hid hQ
    clear hP hQ
    generalize he : errOf s.data.toList = er at *
    have HE := Lib.hid he
    clear he
    go_enter Tryd.func3, Tryd.ntmps3
    go_wp2_with fail
    refine (awake_any w HT.out).mono ?_
    rintro e w1 ⟨rfl, hb1⟩
    go_wp2_with fail
    refine (HP.out _).mono ?_
    rintro e w2 ⟨k, A, c, L, rfl, hi, hl, hok, hno, hb2⟩
    go_wp2_with fail
    refine (HQ.out _).mono ?_
    rintro e w3 ⟨k2, A2, c2, M, rfl, hi2, hl2, hok2, hno2, hb3⟩
    have X := boxed hb3
    have hx0 := X.1
    have hx1 := X.2.1
    have hs3 := X.2.2.1
    have hbA := X.2.2.2
    clear X
    have hb12 := hb1.trans (Below.less hb2 hb1.size)
    have hb13 : Below w.heap.size w w3 := hb12.trans (Below.less ((below_alloc_new _).trans (Below.less hb3 (by simp))) hb12.size)
    have HB13 := Lib.hid hb13
    have hnext : Below w3.heap.size w3 (w3.alloc (.cells #[.bool k2, .slice A2 M.length c2] 31)) := below_alloc_new _
    have hy0 := (hnext.cell (p := ⟨w2.heap.size, 0, none⟩) (by show w2.heap.size < _; omega)).trans hx0
    have hy1 := (hnext.cell (p := ⟨w2.heap.size, 1, none⟩) (by show w2.heap.size < _; omega)).trans hx1
    have hi3 := (hi.row.up ((below_alloc_new (.cells #[.bool k, .slice A L.length c] 25)).trans (Below.less hb3 (by simp))))
    have HI3 := Lib.hid (show IntR w3 w3.heap.size k A c L from ⟨hi3, hi.canon, hi.sgn⟩)
    have HI2 := Lib.hid hi2
    clear hx0 hx1 hnext hi hi3 hi2 hb1 hb2 hb12 hb13 hb3
    by_cases h0 : er = 0
    · subst h0
      obtain ⟨rfl, hv⟩ := hok.out rfl
      obtain ⟨rfl, hv2⟩ := hok2.out rfl
      have hbk : decI (negOf s.data.toList) (val9 L) = s.data.toList := by rw [hv]; exact text_back HE.out
      have hbk2 : decI (negOf s.data.toList) (valB 10000 M) = s.data.toList := by rw [hv2]; exact text_back HE.out
      have HTT := Lib.hid (tab_up HT.out HB13.out)
      have HTX := Lib.hid (fun (W : World) (hW : Below w3.heap.size w3 W) => text_any _ A c L W (by omega) HI3.out.canon HI3.out.sgn (HI3.out.row.up hW) (tab_up HTT.out hW))
      have HSM := Lib.hid (fun (W : World) (hW : Below w3.heap.size w3 W) => same_any _ _ A A2 c c2 L M W (by omega) (by omega) (HI3.out.up hW) (HI2.out.up hW) (tab_up HTT.out hW))
      have hsg : sgnI (negOf s.data.toList) M = sgnI (negOf s.data.toList) L := by
        unfold sgnI
        have h1 : L.length = 0 ↔ val9 L = 0 := ⟨val9_nil, fun h => by
          rcases Nat.eq_zero_or_pos L.length with h1 | h1
          · exact h1
          · exact absurd h (canon_pos HI3.out.canon h1)⟩
        have h2 : M.length = 0 ↔ valB 10000 M = 0 := ⟨fun h => by rw [List.eq_nil_of_length_eq_zero h]; rfl, fun h => by
          rcases Nat.eq_zero_or_pos M.length with h1 | h1
          · exact h1
          · exact absurd h (ref_pos HI2.out h1)⟩
        have h3 : val9 L = valB 10000 M := by rw [hv, hv2]
        simp only [h1, h2, h3]
      have HS1 := Lib.hid (fun (W : World) => sign_any (negOf s.data.toList) A c L W)
      have HS2 := Lib.hid (fun (W : World) => rsign_any (negOf s.data.toList) A2 c2 M W HI2.out.sgn)
      rw [hbk] at HTX HSM
      rw [hbk2] at HSM
      rw [hsg] at HS2
      rw [show (s.data.toList == s.data.toList) = true by simp] at HSM
      generalize sgnI (negOf s.data.toList) L = sg at *
      clear hbk hbk2 hsg hv hv2
      generalize negOf s.data.toList = ng at *
      have hes : (⟨s.data.toList.toArray⟩ : ByteArray) = s := by simp
      rw [hes] at HTX
      clear hes
      have X2 := boxed (w := w3) (x := .bool ng) (y := .slice A2 M.length c2) (t := 31) (Below.refl _ _)
      have hz0 := X2.1
      have hz1 := X2.2.1
      clear X2
      have hlt2 : w2.heap.size < w3.heap.size + 1 := by omega
      have HC := Lib.hid (below_drew (Below.refl (w3.heap.size + 1) (w3.alloc (.cells #[.bool ng, .slice A2 M.length c2] 31))))
      have hf0 := hy0
      have hf1 := hy1
      have hf2 := hz0
      have hf3 := hz1
      go_wp2_with fail
      go_region_held3 (fun w' => w'.cell? ⟨w2.heap.size, 0, none⟩ = some (.bool ng) ∧ w'.cell? ⟨w2.heap.size, 1, none⟩ = some (.slice A L.length c) ∧
        w'.cell? ⟨w3.heap.size, 0, none⟩ = some (.bool ng) ∧ w'.cell? ⟨w3.heap.size, 1, none⟩ = some (.slice A2 M.length c2)) (go_keep)
        (first
          | (go_at_call 16; (with_reducible refine (HTX.out _ (up4 HC.out)).mono ?_); rintro e w4 ⟨rfl, hb4⟩; have HC9 := Lib.hid (below_then HC.out hb4 (below_sz HC.out)); clear HC hf0 hf1 hf2 hf3; have HC := HC9; clear HC9 hb4; have hf0 := (below_at (i := 0) HC.out hlt2).trans hy0; have hf1 := (below_at (i := 1) HC.out hlt2).trans hy1; have hf2 := (below_at (i := 0) HC.out (Nat.lt_succ_self _)).trans hz0; have hf3 := (below_at (i := 1) HC.out (Nat.lt_succ_self _)).trans hz1)
          | (go_at_call 17; (with_reducible refine (HSM.out _ (up4 HC.out)).mono ?_); rintro e w4 ⟨rfl, hb4⟩; have HC9 := Lib.hid (below_then HC.out hb4 (below_sz HC.out)); clear HC hf0 hf1 hf2 hf3; have HC := HC9; clear HC9 hb4; have hf0 := (below_at (i := 0) HC.out hlt2).trans hy0; have hf1 := (below_at (i := 1) HC.out hlt2).trans hy1; have hf2 := (below_at (i := 0) HC.out (Nat.lt_succ_self _)).trans hz0; have hf3 := (below_at (i := 1) HC.out (Nat.lt_succ_self _)).trans hz1)
          | (go_at_call 15; (with_reducible refine (HS1.out _).mono ?_); rintro e w4 ⟨rfl, hb4⟩; have HC9 := Lib.hid (below_then HC.out hb4 (below_sz HC.out)); clear HC hf0 hf1 hf2 hf3; have HC := HC9; clear HC9 hb4; have hf0 := (below_at (i := 0) HC.out hlt2).trans hy0; have hf1 := (below_at (i := 1) HC.out hlt2).trans hy1; have hf2 := (below_at (i := 0) HC.out (Nat.lt_succ_self _)).trans hz0; have hf3 := (below_at (i := 1) HC.out (Nat.lt_succ_self _)).trans hz1)
          | (go_at_call 18; (with_reducible refine (HS2.out _).mono ?_); rintro e w4 ⟨rfl, hb4⟩; have HC9 := Lib.hid (below_then HC.out hb4 (below_sz HC.out)); clear HC hf0 hf1 hf2 hf3; have HC := HC9; clear HC9 hb4; have hf0 := (below_at (i := 0) HC.out hlt2).trans hy0; have hf1 := (below_at (i := 1) HC.out hlt2).trans hy1; have hf2 := (below_at (i := 0) HC.out (Nat.lt_succ_self _)).trans hz0; have hf3 := (below_at (i := 1) HC.out (Nat.lt_succ_self _)).trans hz1))
      all_goals
        go_wp2
        go_ret
        exact ⟨rfl, HB13.out.trans (Below.less (up4 HC.out) HB13.out.size)⟩
    · have hd : ((er : Int) != 0) = true := by rw [bne_iff_ne]; exact h0
      obtain ⟨rfl, rfl⟩ := hno.out h0
      go_wp2_with fail
      refine (sign_any false A c [] _).mono ?_
      rintro e w4 ⟨rfl, hb4⟩
      go_wp2_with fail
      go_ret
      exact ⟨rfl, HB13.out.trans (Below.less ((below_alloc_new _).trans (Below.less hb4 (by simp))) HB13.out.size)⟩
end Go.Proofs.YtbfbijokhlkekaaDoor

/- 'both' of the statements: two integers of the program and of the reference. -/
namespace Go.Proofs.YtbfbijokhlkekaaDoor
open Go.RowKit

/-- Block b is the box of a struct of two cells. -/
structure Box (w : World) (b : Nat) (x y : Value) : Prop where
  c0 : w.cell? ⟨b, 0, none⟩ = some x
  c1 : w.cell? ⟨b, 1, none⟩ = some y
  hi : ∀ i, w.cell? ⟨b, i + 2, none⟩ = none
  f0 : w.frozen? ⟨b, 0, none⟩ = false
  f1 : w.frozen? ⟨b, 1, none⟩ = false
def setPair (w : World) (b : Nat) (u v : Value) : World := (w.setCell ⟨b, 0, none⟩ u).setCell ⟨b, 1, none⟩ v
section
variable {w w' : World} {b b' B : Nat} {x y u v : Value}
theorem Box.below (h : Box w b x y) (hb : Below B w w') (hB : b < B) : Box w' b x y :=
  ⟨(hb.cell (by exact hB)).trans h.c0, (hb.cell (by exact hB)).trans h.c1, fun i => (hb.cell (by exact hB)).trans (h.hi i), (hb.frozen (by exact hB)).trans h.f0, (hb.frozen (by exact hB)).trans h.f1⟩
theorem Box.store (h : Box w b x y) (u v : Value) : Box (setPair w b u v) b u v := by
  have n1 : (⟨b, 1, none⟩ : Addr) ≠ ⟨b, 0, none⟩ := by simp
  refine ⟨?_, ?_, fun i => ?_, ?_, ?_⟩
  · unfold setPair; rw [World.cell?_setCell_other _ _ _ _ n1]; exact World.cell?_setCell_same _ _ _ h.c0
  · unfold setPair; exact World.cell?_setCell_same _ _ _ (by rw [World.cell?_setCell_other _ _ _ _ n1.symm]; exact h.c1)
  · unfold setPair; rw [World.cell?_setCell_other _ _ _ _ (by simp), World.cell?_setCell_other _ _ _ _ (by simp)]; exact h.hi i
  · unfold setPair; simp [h.f0]
  · unfold setPair; simp [h.f1]
theorem Box.other (h : Box w b x y) (hne : b' ≠ b) (u v : Value) : Box (setPair w b' u v) b x y := by
  have n : ∀ i j : Nat, (⟨b', i, none⟩ : Addr) ≠ ⟨b, j, none⟩ := fun i j e => hne (congrArg Addr.block e)
  refine ⟨?_, ?_, fun i => ?_, ?_, ?_⟩
  · unfold setPair; rw [World.cell?_setCell_other _ _ _ _ (n _ _), World.cell?_setCell_other _ _ _ _ (n _ _)]; exact h.c0
  · unfold setPair; rw [World.cell?_setCell_other _ _ _ _ (n _ _), World.cell?_setCell_other _ _ _ _ (n _ _)]; exact h.c1
  · unfold setPair; rw [World.cell?_setCell_other _ _ _ _ (n _ _), World.cell?_setCell_other _ _ _ _ (n _ _)]; exact h.hi i
  · unfold setPair; simp [h.f0]
  · unfold setPair; simp [h.f1]
theorem Box.new (w : World) (x y : Value) (t : TypeId) : Box (w.alloc (.cells #[x, y] t)) w.heap.size x y := by
  have hh := heap_alloc_new w (.cells #[x, y] t)
  refine ⟨?_, ?_, fun i => ?_, ?_, ?_⟩
  · unfold World.cell?; dsimp only; rw [hh]; rfl
  · unfold World.cell?; dsimp only; rw [hh]; rfl
  · unfold World.cell?; dsimp only; rw [hh]; simp
  · unfold World.frozen?; dsimp only; rw [hh]; simp
  · unfold World.frozen?; dsimp only; rw [hh]; simp
theorem Box.row {k : IntKind} {A : Option Addr} {c : Nat} {L : List Nat} (hbx : Box w b x y) (h : Row k w B A c L) (hx : ∀ n, x ≠ .int k n) (hy : ∀ n, y ≠ .int k n) (u v : Value) : Row k (setPair w b u v) B A c L := by
  refine ⟨h.len, fun hp => ?_⟩
  obtain ⟨b', o, e, hbB, hc⟩ := h.spot hp
  have hne : b ≠ b' := by
    rintro rfl
    have h0 := hc 0 hp
    match o, h0 with
    | 0, h0 => rw [hbx.c0] at h0; exact hx _ (Option.some.inj h0)
    | 1, h0 => rw [hbx.c1] at h0; exact hy _ (Option.some.inj h0)
    | o + 2, h0 => rw [Nat.add_zero, hbx.hi o] at h0; cases h0
  refine ⟨b', o, e, hbB, hc.keep fun j => ?_⟩
  unfold setPair
  rw [World.cell?_setCell_other _ _ _ _ (fun e => hne (congrArg Addr.block e)), World.cell?_setCell_other _ _ _ _ (fun e => hne (congrArg Addr.block e))]
theorem setPair_size (w : World) (b : Nat) (u v : Value) : (setPair w b u v).heap.size = w.heap.size := by unfold setPair; rw [setCell_size, setCell_size]
theorem below_setPair {a : World} (h : Below B a w) (hB : B ≤ b) (u v : Value) : Below B a (setPair w b u v) := (h.setCell (by exact hB) _).setCell (by exact hB) _
end

/-- Four new boxes. -/
theorem four_boxes (w : World) (x0 y0 x1 y1 x2 y2 x3 y3 : Value) (t0 t1 t2 t3 : TypeId) :
    let W := (((w.alloc (.cells #[x0, y0] t0)).alloc (.cells #[x1, y1] t1)).alloc (.cells #[x2, y2] t2)).alloc (.cells #[x3, y3] t3)
    Box W w.heap.size x0 y0 ∧ Box W (w.heap.size + 1) x1 y1 ∧ Box W (w.heap.size + 1 + 1) x2 y2 ∧ Box W (w.heap.size + 1 + 1 + 1) x3 y3 ∧ W.heap.size = w.heap.size + 4 ∧ Below w.heap.size w W := by
  intro W
  have s1 : (w.alloc (.cells #[x0, y0] t0)).heap.size = w.heap.size + 1 := by simp
  have s2 : ((w.alloc (.cells #[x0, y0] t0)).alloc (.cells #[x1, y1] t1)).heap.size = w.heap.size + 1 + 1 := by simp
  have s3 : (((w.alloc (.cells #[x0, y0] t0)).alloc (.cells #[x1, y1] t1)).alloc (.cells #[x2, y2] t2)).heap.size = w.heap.size + 1 + 1 + 1 := by simp
  have b0 := Box.new w x0 y0 t0
  have b1 := Box.new (w.alloc (.cells #[x0, y0] t0)) x1 y1 t1
  have b2 := Box.new ((w.alloc (.cells #[x0, y0] t0)).alloc (.cells #[x1, y1] t1)) x2 y2 t2
  have b3 := Box.new (((w.alloc (.cells #[x0, y0] t0)).alloc (.cells #[x1, y1] t1)).alloc (.cells #[x2, y2] t2)) x3 y3 t3
  have a1 := below_alloc_new (w := w.alloc (.cells #[x0, y0] t0)) (.cells #[x1, y1] t1)
  have a2 := below_alloc_new (w := (w.alloc (.cells #[x0, y0] t0)).alloc (.cells #[x1, y1] t1)) (.cells #[x2, y2] t2)
  have a3 := below_alloc_new (w := ((w.alloc (.cells #[x0, y0] t0)).alloc (.cells #[x1, y1] t1)).alloc (.cells #[x2, y2] t2)) (.cells #[x3, y3] t3)
  rw [s1] at b1 a1
  rw [s2] at b2 a2
  rw [s3] at b3 a3
  refine ⟨((b0.below a1 (by omega)).below a2 (by omega)).below a3 (by omega), (b1.below a2 (by omega)).below a3 (by omega), b2.below a3 (by omega), b3, by simp [W], ?_⟩
  exact (below_a3 w _ _ _).trans (Below.less a3 (by omega))
end Go.Proofs.YtbfbijokhlkekaaDoor

/- 'both' of the statements. -/
namespace Go.Proofs.YtbfbijokhlkekaaDoor
open Go.RowKit

/-- What 'both' returns: two integers of the program, two of the reference, and whether both texts are good. -/
def BothPost (s t : ByteArray) (w : World) (e : Ending) (w' : World) : Prop := ∃ k1 A1 c1 L1 k2 A2 c2 L2 k3 A3 c3 L3 k4 A4 c4 L4 ok,
  e = .returned (.tuple #[.agg #[.bool k1, .slice A1 (List.length L1) c1], .agg #[.bool k2, .slice A2 (List.length L2) c2], .agg #[.bool k3, .slice A3 (List.length L3) c3], .agg #[.bool k4, .slice A4 (List.length L4) c4], .bool ok]) ∧
  IntR w' w'.heap.size k1 A1 c1 L1 ∧ IntR w' w'.heap.size k2 A2 c2 L2 ∧ RefR w' w'.heap.size k3 A3 c3 L3 ∧ RefR w' w'.heap.size k4 A4 c4 L4 ∧
  List.length L1 ≤ 223 ∧ List.length L2 ≤ 223 ∧ List.length L3 ≤ 500 ∧ List.length L4 ≤ 500 ∧
  (ok = true → errOf s.data.toList = 0 ∧ errOf t.data.toList = 0 ∧ k1 = negOf s.data.toList ∧ val9 L1 = numOf (restOf s.data.toList) ∧ k2 = negOf t.data.toList ∧ val9 L2 = numOf (restOf t.data.toList) ∧
    k3 = negOf s.data.toList ∧ valB 10000 L3 = numOf (restOf s.data.toList) ∧ k4 = negOf t.data.toList ∧ valB 10000 L4 = numOf (restOf t.data.toList)) ∧ Below w.heap.size w w'

theorem below_set1 {B b : Nat} {a w : World} (h : Below B a w) (hB : B ≤ b) (i : Nat) (u : Value) : Below B a (w.setCell ⟨b, i, none⟩ u) := h.setCell (by exact hB) _
theorem keep0 (W : World) (b : Nat) (x y : Value) (h : W.cell? ⟨b, 0, none⟩ = some x) : ((W.setCell ⟨b, 0, none⟩ x).setCell ⟨b, 1, none⟩ y).cell? ⟨b, 0, none⟩ = some x := by
  rw [World.cell?_setCell_other _ _ _ _ (by simp)]; exact World.cell?_setCell_same _ _ _ h
theorem keep1 (W : World) (b : Nat) (x y : Value) (h : W.cell? ⟨b, 1, none⟩ = some y) : ((W.setCell ⟨b, 0, none⟩ x).setCell ⟨b, 1, none⟩ y).cell? ⟨b, 1, none⟩ = some y :=
  World.cell?_setCell_same _ _ _ (by rw [World.cell?_setCell_other _ _ _ _ (by simp)]; exact h)

set_option maxRecDepth 20000 in
set_option maxHeartbeats 6400000 in
theorem both_long (s t : ByteArray) (w : World) (h : 600 < s.size ∨ 600 < t.size) : Calls Tryd.prog 22 #[.string s, .string t] w (BothPost s t w) := by
  have hfin : ∀ W, Below w.heap.size w W → BothPost s t w (.returned (.tuple #[.agg #[.bool false, .slice none 0 0], .agg #[.bool false, .slice none 0 0], .agg #[.bool false, .slice none 0 0], .agg #[.bool false, .slice none 0 0], .bool false])) W := fun W hb =>
    ⟨false, none, 0, [], false, none, 0, [], false, none, 0, [], false, none, 0, [], false, rfl, IntR.zero _ _ _ _, IntR.zero _ _ _ _, RefR.zero _ _ _ _, RefR.zero _ _ _ _, by simp, by simp, by simp, by simp, fun h => absurd h Bool.false_ne_true, hb⟩
  have HF := Lib.hid hfin
  clear hfin
  have F := four_boxes w (.bool false) (.slice none 0 0) (.bool false) (.slice none 0 0) (.bool false) (.slice none 0 0) (.bool false) (.slice none 0 0) 25 25 31 31
  by_cases h1 : 600 < s.size
  · clear h
    go_enter Tryd.func22, Tryd.ntmps22
    go_wp2_with fail
    change Code.wp Tryd.prog _ _ _ ((((w.alloc (.cells #[.bool false, .slice none 0 0] 25)).alloc (.cells #[.bool false, .slice none 0 0] 25)).alloc (.cells #[.bool false, .slice none 0 0] 31)).alloc (.cells #[.bool false, .slice none 0 0] 31))
    generalize (((w.alloc (.cells #[.bool false, .slice none 0 0] 25)).alloc (.cells #[.bool false, .slice none 0 0] 25)).alloc (.cells #[.bool false, .slice none 0 0] 31)).alloc (.cells #[.bool false, .slice none 0 0] 31) = W at *
    obtain ⟨b0, b1, b2, b3, hsz, hbw⟩ := F
    have HBW := Lib.hid hbw
    have HSZ := Lib.hid hsz
    clear hbw hsz
    have x0 := b0.c0
    have y0 := b0.c1
    have p0 := b0.f0
    have q0 := b0.f1
    have x1 := b1.c0
    have y1 := b1.c1
    have p1 := b1.f0
    have q1 := b1.f1
    have x2 := b2.c0
    have y2 := b2.c1
    have p2 := b2.f0
    have q2 := b2.f1
    have x3 := b3.c0
    have y3 := b3.c1
    have p3 := b3.f0
    have q3 := b3.f1
    clear b0 b1 b2 b3
    have n1 : ¬ w.heap.size = w.heap.size + 1 + 1 := by omega
    have n2 : ¬ w.heap.size = w.heap.size + 1 + 1 + 1 := by omega
    have n3 : ¬ w.heap.size + 1 = w.heap.size + 1 + 1 + 1 := by omega
    have n4 : ¬ w.heap.size + 1 + 1 = w.heap.size := by omega
    have n5 : ¬ w.heap.size + 1 + 1 + 1 = w.heap.size := by omega
    have n6 : ¬ w.heap.size + 1 + 1 + 1 = w.heap.size + 1 := by omega
    have ks0 := keep0
    have ks1 := keep1
    go_region_held3 (fun w' => w'.cell? ⟨w.heap.size, 0, none⟩ = some (.bool false) ∧ w'.cell? ⟨w.heap.size, 1, none⟩ = some (.slice none 0 0) ∧
        w'.cell? ⟨w.heap.size + 1, 0, none⟩ = some (.bool false) ∧ w'.cell? ⟨w.heap.size + 1, 1, none⟩ = some (.slice none 0 0) ∧
        w'.cell? ⟨w.heap.size + 1 + 1, 0, none⟩ = some (.bool false) ∧ w'.cell? ⟨w.heap.size + 1 + 1, 1, none⟩ = some (.slice none 0 0) ∧
        w'.cell? ⟨w.heap.size + 1 + 1 + 1, 0, none⟩ = some (.bool false) ∧ w'.cell? ⟨w.heap.size + 1 + 1 + 1, 1, none⟩ = some (.slice none 0 0)) (go_keep)
      (fail)
    all_goals
      go_wp2
      refine bodyPost_ret (v := .tuple #[.agg #[.bool false, .slice none 0 0], .agg #[.bool false, .slice none 0 0], .agg #[.bool false, .slice none 0 0], .agg #[.bool false, .slice none 0 0], .bool false]) (by simp [results, Tryd.results22, go_sem, x0, y0, x1, y1, x2, y2, x3, y3]) rfl (HF.out _ ?_)
      repeat (first | (with_reducible exact HBW.out) | (with_reducible refine below_drew ?_) | (with_reducible refine below_drewN ?_ _) | (with_reducible refine below_set1 ?_ ?_ _ _; rotate_left; omega))
  · have h2 : 600 < t.size := by omega
    clear h
    go_enter Tryd.func22, Tryd.ntmps22
    go_wp2_with fail
    change Code.wp Tryd.prog _ _ _ ((((w.alloc (.cells #[.bool false, .slice none 0 0] 25)).alloc (.cells #[.bool false, .slice none 0 0] 25)).alloc (.cells #[.bool false, .slice none 0 0] 31)).alloc (.cells #[.bool false, .slice none 0 0] 31))
    generalize (((w.alloc (.cells #[.bool false, .slice none 0 0] 25)).alloc (.cells #[.bool false, .slice none 0 0] 25)).alloc (.cells #[.bool false, .slice none 0 0] 31)).alloc (.cells #[.bool false, .slice none 0 0] 31) = W at *
    obtain ⟨b0, b1, b2, b3, hsz, hbw⟩ := F
    have HBW := Lib.hid hbw
    have HSZ := Lib.hid hsz
    clear hbw hsz
    have x0 := b0.c0
    have y0 := b0.c1
    have p0 := b0.f0
    have q0 := b0.f1
    have x1 := b1.c0
    have y1 := b1.c1
    have p1 := b1.f0
    have q1 := b1.f1
    have x2 := b2.c0
    have y2 := b2.c1
    have p2 := b2.f0
    have q2 := b2.f1
    have x3 := b3.c0
    have y3 := b3.c1
    have p3 := b3.f0
    have q3 := b3.f1
    clear b0 b1 b2 b3
    have n1 : ¬ w.heap.size = w.heap.size + 1 + 1 := by omega
    have n2 : ¬ w.heap.size = w.heap.size + 1 + 1 + 1 := by omega
    have n3 : ¬ w.heap.size + 1 = w.heap.size + 1 + 1 + 1 := by omega
    have n4 : ¬ w.heap.size + 1 + 1 = w.heap.size := by omega
    have n5 : ¬ w.heap.size + 1 + 1 + 1 = w.heap.size := by omega
    have n6 : ¬ w.heap.size + 1 + 1 + 1 = w.heap.size + 1 := by omega
    have ks0 := keep0
    have ks1 := keep1
    go_region_held3 (fun w' => w'.cell? ⟨w.heap.size, 0, none⟩ = some (.bool false) ∧ w'.cell? ⟨w.heap.size, 1, none⟩ = some (.slice none 0 0) ∧
        w'.cell? ⟨w.heap.size + 1, 0, none⟩ = some (.bool false) ∧ w'.cell? ⟨w.heap.size + 1, 1, none⟩ = some (.slice none 0 0) ∧
        w'.cell? ⟨w.heap.size + 1 + 1, 0, none⟩ = some (.bool false) ∧ w'.cell? ⟨w.heap.size + 1 + 1, 1, none⟩ = some (.slice none 0 0) ∧
        w'.cell? ⟨w.heap.size + 1 + 1 + 1, 0, none⟩ = some (.bool false) ∧ w'.cell? ⟨w.heap.size + 1 + 1 + 1, 1, none⟩ = some (.slice none 0 0)) (go_keep)
      (fail)
    all_goals
      go_wp2
      refine bodyPost_ret (v := .tuple #[.agg #[.bool false, .slice none 0 0], .agg #[.bool false, .slice none 0 0], .agg #[.bool false, .slice none 0 0], .agg #[.bool false, .slice none 0 0], .bool false]) (by simp [results, Tryd.results22, go_sem, x0, y0, x1, y1, x2, y2, x3, y3]) rfl (HF.out _ ?_)
      repeat (first | (with_reducible exact HBW.out) | (with_reducible refine below_drew ?_) | (with_reducible refine below_drewN ?_ _) | (with_reducible refine below_set1 ?_ ?_ _ _; rotate_left; omega))

/-- The four boxes of a call that began in world w. -/
structure St (w W : World) (x0 y0 x1 y1 x2 y2 x3 y3 : Value) : Prop where
  b0 : Box W w.heap.size x0 y0
  b1 : Box W (w.heap.size + 1) x1 y1
  b2 : Box W (w.heap.size + 1 + 1) x2 y2
  b3 : Box W (w.heap.size + 1 + 1 + 1) x3 y3
  bw : Below w.heap.size w W
  sz : w.heap.size + 4 ≤ W.heap.size
section
variable {w W W' : World} {x0 y0 x1 y1 x2 y2 x3 y3 : Value}
theorem St.call (h : St w W x0 y0 x1 y1 x2 y2 x3 y3) (hb : Below W.heap.size W W') : St w W' x0 y0 x1 y1 x2 y2 x3 y3 :=
  ⟨h.b0.below hb (by have := h.sz; omega), h.b1.below hb (by have := h.sz; omega), h.b2.below hb (by have := h.sz; omega), h.b3.below hb (by have := h.sz; omega), h.bw.trans (Below.less hb h.bw.size), Nat.le_trans h.sz hb.size⟩
theorem St.s0 (h : St w W x0 y0 x1 y1 x2 y2 x3 y3) (u v : Value) : St w (setPair W w.heap.size u v) u v x1 y1 x2 y2 x3 y3 :=
  ⟨h.b0.store u v, h.b1.other (by omega) u v, h.b2.other (by omega) u v, h.b3.other (by omega) u v, below_setPair h.bw (Nat.le_refl _) u v, by rw [setPair_size]; exact h.sz⟩
theorem St.s1 (h : St w W x0 y0 x1 y1 x2 y2 x3 y3) (u v : Value) : St w (setPair W (w.heap.size + 1) u v) x0 y0 u v x2 y2 x3 y3 :=
  ⟨h.b0.other (by omega) u v, h.b1.store u v, h.b2.other (by omega) u v, h.b3.other (by omega) u v, below_setPair h.bw (by omega) u v, by rw [setPair_size]; exact h.sz⟩
theorem St.s2 (h : St w W x0 y0 x1 y1 x2 y2 x3 y3) (u v : Value) : St w (setPair W (w.heap.size + 1 + 1) u v) x0 y0 x1 y1 u v x3 y3 :=
  ⟨h.b0.other (by omega) u v, h.b1.other (by omega) u v, h.b2.store u v, h.b3.other (by omega) u v, below_setPair h.bw (by omega) u v, by rw [setPair_size]; exact h.sz⟩
theorem St.s3 (h : St w W x0 y0 x1 y1 x2 y2 x3 y3) (u v : Value) : St w (setPair W (w.heap.size + 1 + 1 + 1) u v) x0 y0 x1 y1 x2 y2 u v :=
  ⟨h.b0.other (by omega) u v, h.b1.other (by omega) u v, h.b2.other (by omega) u v, h.b3.store u v, below_setPair h.bw (by omega) u v, by rw [setPair_size]; exact h.sz⟩
end
theorem IntR.pair {w : World} {b B : Nat} {z : Bool} {a : Option Addr} {n cc : Nat} (hb : Box w b (.bool z) (.slice a n cc)) {k : Bool} {A : Option Addr} {c : Nat} {L : List Nat} (h : IntR w B k A c L) (u v : Value) : IntR (setPair w b u v) B k A c L :=
  ⟨hb.row h.row (fun _ => by simp) (fun _ => by simp) u v, h.canon, h.sgn⟩
theorem RefR.pair {w : World} {b B : Nat} {z : Bool} {a : Option Addr} {n cc : Nat} (hb : Box w b (.bool z) (.slice a n cc)) {k : Bool} {A : Option Addr} {c : Nat} {L : List Nat} (h : RefR w B k A c L) (u v : Value) : RefR (setPair w b u v) B k A c L :=
  ⟨hb.row h.row (fun _ => by simp) (fun _ => by simp) u v, h.lim, h.top, h.sgn⟩
theorem RefR.lift {w w1 : World} {B : Nat} {n : Bool} {A : Option Addr} {c : Nat} {L : List Nat} (h : RefR w B n A c L) (hb : Below w.heap.size w w1) (hB : B ≤ w.heap.size) : RefR w1 w1.heap.size n A c L :=
  ⟨((h.row.more hB).below hb).more hb.size, h.lim, h.top, h.sgn⟩
theorem IntR.lift1 {w w1 : World} {B : Nat} {n : Bool} {A : Option Addr} {c : Nat} {L : List Nat} (h : IntR w B n A c L) (hb : Below w.heap.size w w1) (hB : B ≤ w.heap.size) : IntR w1 w1.heap.size n A c L :=
  ⟨((h.row.more hB).below hb).more hb.size, h.canon, h.sgn⟩

theorem Box.drew {w : World} {b : Nat} {x y : Value} (h : Box w b x y) : Box w.drew b x y := ⟨h.c0, h.c1, h.hi, h.f0, h.f1⟩
theorem IntR.drew {w : World} {B : Nat} {k : Bool} {A : Option Addr} {c : Nat} {L : List Nat} (h : IntR w B k A c L) : IntR w.drew B k A c L := ⟨h.row.drew, h.canon, h.sgn⟩
theorem RefR.drew {w : World} {B : Nat} {k : Bool} {A : Option Addr} {c : Nat} {L : List Nat} (h : RefR w B k A c L) : RefR w.drew B k A c L := ⟨h.row.drew, h.lim, h.top, h.sgn⟩
theorem drew_size (w : World) : w.drew.heap.size = w.heap.size := rfl
theorem St.drew {w W : World} {x0 y0 x1 y1 x2 y2 x3 y3 : Value} (h : St w W x0 y0 x1 y1 x2 y2 x3 y3) : St w W.drew x0 y0 x1 y1 x2 y2 x3 y3 :=
  ⟨h.b0.drew, h.b1.drew, h.b2.drew, h.b3.drew, below_drew h.bw, by rw [drew_size]; exact h.sz⟩
/-- Each box gets back what it held. -/
def lastW (w W : World) (x0 y0 x1 y1 x2 y2 x3 y3 : Value) : World :=
  (setPair (setPair (setPair (setPair W w.heap.size x0 y0) (w.heap.size + 1) x1 y1) (w.heap.size + 1 + 1) x2 y2) (w.heap.size + 1 + 1 + 1) x3 y3).drew
theorem lastW_size (w W : World) (x0 y0 x1 y1 x2 y2 x3 y3 : Value) : (lastW w W x0 y0 x1 y1 x2 y2 x3 y3).heap.size = W.heap.size := by
  unfold lastW
  rw [drew_size, setPair_size, setPair_size, setPair_size, setPair_size]
section
variable {w W : World} {z0 z1 z2 z3 : Bool} {a0 a1 a2 a3 : Option Addr} {n0 n1 n2 n3 m0 m1 m2 m3 : Nat}
theorem St.last (h : St w W (.bool z0) (.slice a0 n0 m0) (.bool z1) (.slice a1 n1 m1) (.bool z2) (.slice a2 n2 m2) (.bool z3) (.slice a3 n3 m3)) :
    St w (lastW w W (.bool z0) (.slice a0 n0 m0) (.bool z1) (.slice a1 n1 m1) (.bool z2) (.slice a2 n2 m2) (.bool z3) (.slice a3 n3 m3)) (.bool z0) (.slice a0 n0 m0) (.bool z1) (.slice a1 n1 m1) (.bool z2) (.slice a2 n2 m2) (.bool z3) (.slice a3 n3 m3) := by
  have h4 := (((h.s0 (.bool z0) (.slice a0 n0 m0)).s1 (.bool z1) (.slice a1 n1 m1)).s2 (.bool z2) (.slice a2 n2 m2)).s3 (.bool z3) (.slice a3 n3 m3)
  unfold lastW
  exact h4.drew
theorem IntR.last (h : St w W (.bool z0) (.slice a0 n0 m0) (.bool z1) (.slice a1 n1 m1) (.bool z2) (.slice a2 n2 m2) (.bool z3) (.slice a3 n3 m3)) {k : Bool} {A : Option Addr} {c : Nat} {L : List Nat} (hi : IntR W W.heap.size k A c L) :
    IntR (lastW w W (.bool z0) (.slice a0 n0 m0) (.bool z1) (.slice a1 n1 m1) (.bool z2) (.slice a2 n2 m2) (.bool z3) (.slice a3 n3 m3)) (lastW w W (.bool z0) (.slice a0 n0 m0) (.bool z1) (.slice a1 n1 m1) (.bool z2) (.slice a2 n2 m2) (.bool z3) (.slice a3 n3 m3)).heap.size k A c L := by
  rw [lastW_size]
  have h0 := h.s0 (.bool z0) (.slice a0 n0 m0)
  have h1 := h0.s1 (.bool z1) (.slice a1 n1 m1)
  have h2 := h1.s2 (.bool z2) (.slice a2 n2 m2)
  have i3 := IntR.pair h2.b3 (IntR.pair h1.b2 (IntR.pair h0.b1 (IntR.pair h.b0 hi (.bool z0) (.slice a0 n0 m0)) (.bool z1) (.slice a1 n1 m1)) (.bool z2) (.slice a2 n2 m2)) (.bool z3) (.slice a3 n3 m3)
  unfold lastW
  exact i3.drew
theorem RefR.last (h : St w W (.bool z0) (.slice a0 n0 m0) (.bool z1) (.slice a1 n1 m1) (.bool z2) (.slice a2 n2 m2) (.bool z3) (.slice a3 n3 m3)) {k : Bool} {A : Option Addr} {c : Nat} {L : List Nat} (hi : RefR W W.heap.size k A c L) :
    RefR (lastW w W (.bool z0) (.slice a0 n0 m0) (.bool z1) (.slice a1 n1 m1) (.bool z2) (.slice a2 n2 m2) (.bool z3) (.slice a3 n3 m3)) (lastW w W (.bool z0) (.slice a0 n0 m0) (.bool z1) (.slice a1 n1 m1) (.bool z2) (.slice a2 n2 m2) (.bool z3) (.slice a3 n3 m3)).heap.size k A c L := by
  rw [lastW_size]
  have h0 := h.s0 (.bool z0) (.slice a0 n0 m0)
  have h1 := h0.s1 (.bool z1) (.slice a1 n1 m1)
  have h2 := h1.s2 (.bool z2) (.slice a2 n2 m2)
  have i3 := RefR.pair h2.b3 (RefR.pair h1.b2 (RefR.pair h0.b1 (RefR.pair h.b0 hi (.bool z0) (.slice a0 n0 m0)) (.bool z1) (.slice a1 n1 m1)) (.bool z2) (.slice a2 n2 m2)) (.bool z3) (.slice a3 n3 m3)
  unfold lastW
  exact i3.drew
end

end Go.Proofs.YtbfbijokhlkekaaDoor

/- 'QuoRem' of integers. -/
namespace Go.Proofs.YtbfbijokhlkekaaDoor
open Go.RowKit

theorem tdiv_sign (n m : Bool) (a b q r : Nat) (h : q * b + r = a) (hr : r < b) :
    Int.tdiv (if n then -(a : Int) else a) (if m then -(b : Int) else b) = (if n != m then -(q : Int) else q) ∧ Int.tmod (if n then -(a : Int) else a) (if m then -(b : Int) else b) = (if n then -(r : Int) else r) := by
  have hq : a / b = q := Nat.div_eq_of_lt_le (by omega) (by rw [Nat.add_mul]; omega)
  have hm : a % b = r := by have := Nat.div_add_mod a b; rw [hq, Nat.mul_comm] at this; omega
  have e1 : Int.tdiv (a : Int) (b : Int) = (q : Int) := by rw [← hq]; rfl
  have e2 : Int.tmod (a : Int) (b : Int) = (r : Int) := by rw [← hm]; rfl
  cases n <;> cases m <;> simp [Int.neg_tdiv, Int.tdiv_neg, Int.neg_tmod, Int.tmod_neg, e1, e2]
theorem zI_signed (k : Bool) {Q : List Nat} (h0 : Q.length = 0 → val9 Q = 0) : zI (k && decide (0 < Q.length)) Q = if k then -(val9 Q : Int) else val9 Q := by
  unfold zI
  rcases Nat.eq_zero_or_pos Q.length with h | h
  · rw [h0 h]; simp
  · have e : decide (0 < Q.length) = true := by simpa using h
    rw [e, Bool.and_true]

theorem qr_final {w w4 : World} {p0 p1 p2 p3 : Value} {k1 k2 : Bool} {A1 A2 : Option Addr} {c1 c2 : Nat} {Q R : List Nat} (hS : St w w4 p0 p1 p2 p3 (.bool false) (.slice none 0 0) (.bool false) (.slice none 0 0))
    (h1 : IntR w4 w4.heap.size k1 A1 c1 Q) (h2 : IntR w4 w4.heap.size k2 A2 c2 R) (u1 v1 u2 v2 : Value) {W : World} (hW : W = setPair (setPair w4 (w.heap.size + 1 + 1) u1 v1) (w.heap.size + 1 + 1 + 1) u2 v2) :
    IntR W W.heap.size k1 A1 c1 Q ∧ IntR W W.heap.size k2 A2 c2 R ∧ Below w.heap.size w W := by
  subst hW
  have hS2 := hS.s2 u1 v1
  rw [setPair_size, setPair_size]
  exact ⟨IntR.pair hS2.b3 (IntR.pair hS.b2 h1 u1 v1) u2 v2, IntR.pair hS2.b3 (IntR.pair hS.b2 h2 u1 v1) u2 v2, (hS2.s3 u2 v2).bw⟩
theorem qr_final2 {w w4 : World} {p0 p1 p2 p3 : Value} {k1 k2 : Bool} {A1 A2 : Option Addr} {c1 c2 : Nat} {Q R : List Nat} (hS : St w w4 p0 p1 p2 p3 (.bool false) (.slice none 0 0) (.bool false) (.slice none 0 0))
    (h1 : IntR w4 w4.heap.size k1 A1 c1 Q) (h2 : IntR w4 w4.heap.size k2 A2 c2 R) (u1 v1 u2 v2 : Value) {W : World} (hW : W = setPair (setPair w4 (w.heap.size + 1 + 1 + 1) u2 v2) (w.heap.size + 1 + 1) u1 v1) :
    IntR W W.heap.size k1 A1 c1 Q ∧ IntR W W.heap.size k2 A2 c2 R ∧ Below w.heap.size w W := by
  subst hW
  have hS2 := hS.s3 u2 v2
  rw [setPair_size, setPair_size]
  exact ⟨IntR.pair hS2.b2 (IntR.pair hS.b3 h1 u2 v2) u1 v1, IntR.pair hS2.b2 (IntR.pair hS.b3 h2 u2 v2) u1 v1, (hS2.s2 u1 v1).bw⟩

theorem qr_post {w w4 W : World} {p0 p1 p2 p3 : Value} {n m : Bool} {A1 A2 : Option Addr} {c1 c2 : Nat} {Q R L M : List Nat} (hS : St w w4 p0 p1 p2 p3 (.bool false) (.slice none 0 0) (.bool false) (.slice none 0 0))
    (h1 : IntR w4 w4.heap.size (!(n == m) && decide (0 < Q.length)) A1 c1 Q) (h2 : IntR w4 w4.heap.size (n && decide (0 < R.length)) A2 c2 R) {u1 v1 u2 v2 : Value}
    (hW : W = setPair (setPair w4 (w.heap.size + 1 + 1) u1 v1) (w.heap.size + 1 + 1 + 1) u2 v2 ∨ W = setPair (setPair w4 (w.heap.size + 1 + 1 + 1) u2 v2) (w.heap.size + 1 + 1) u1 v1)
    (hv : val9 Q * val9 M + val9 R = val9 L) (hlt : val9 R < val9 M) {l : Nat} (hq : Q.length ≤ l) (hr : R.length ≤ l + 1) {lq lr : Nat} (hlq : Q.length = lq) (hlr : R.length = lr) :
    ∃ k1 B1 d1 Q' k2 B2 d2 R', Ending.returned (.tuple #[.agg #[.bool (!(n == m) && decide (0 < lq)), .slice A1 lq c1], .agg #[.bool (n && decide (0 < lr)), .slice A2 lr c2], .int .i64 0]) = Ending.returned (.tuple #[.agg #[.bool k1, .slice B1 (List.length Q') d1], .agg #[.bool k2, .slice B2 (List.length R') d2], .int .i64 0]) ∧
      IntR W W.heap.size k1 B1 d1 Q' ∧ IntR W W.heap.size k2 B2 d2 R' ∧ zI k1 Q' = Int.tdiv (zI n L) (zI m M) ∧ zI k2 R' = Int.tmod (zI n L) (zI m M) ∧ List.length Q' ≤ l ∧ List.length R' ≤ l + 1 ∧ Below w.heap.size w W := by
  subst hlq
  subst hlr
  have hf : IntR W W.heap.size (!(n == m) && decide (0 < Q.length)) A1 c1 Q ∧ IntR W W.heap.size (n && decide (0 < R.length)) A2 c2 R ∧ Below w.heap.size w W := by
    rcases hW with hW | hW
    · exact qr_final hS h1 h2 _ _ _ _ hW
    · exact qr_final2 hS h1 h2 _ _ _ _ hW
  have hz := tdiv_sign n m (val9 L) (val9 M) (val9 Q) (val9 R) hv hlt
  exact ⟨_, A1, c1, Q, _, A2, c2, R, rfl, hf.1, hf.2.1, by rw [zI_signed _ val9_nil]; exact hz.1.symm, by rw [zI_signed _ val9_nil]; exact hz.2.symm, hq, hr, hf.2.2⟩

set_option maxRecDepth 20000 in
set_option maxHeartbeats 3200000 in
theorem quoRem_zero (n m : Bool) (A A' : Option Addr) (c c' : Nat) (L : List Nat) (w : World) :
    Calls Tryd.prog 34 #[.agg #[.bool n, .slice A L.length c], .agg #[.bool m, .slice A' 0 c']] w fun e w' => e = .returned (.tuple #[.agg #[.bool false, .slice none 0 0], .agg #[.bool false, .slice none 0 0], .int .i64 10]) ∧ Below w.heap.size w w' := by
  generalize L.length = l at *
  go_enter Tryd.func34, Tryd.ntmps34
  go_wp2
  refine bodyPost_ret (v := .tuple #[.agg #[.bool false, .slice none 0 0], .agg #[.bool false, .slice none 0 0], .int .i64 10]) (by simp [results, Tryd.results34, go_sem]) rfl ⟨rfl, ?_⟩
  exact (below_a2 w _ _).trans (Below.less (below_a2 _ _ _) (by simp; omega))

set_option maxRecDepth 20000 in
set_option maxHeartbeats 6400000 in
theorem quoRem_pos (n m : Bool) (A A' : Option Addr) (c c' : Nat) (L M : List Nat) (w : World) (hl : L.length ≤ 400000) (hml : M.length ≤ 400000) (hm0 : 0 < M.length)
    (hL : IntR w w.heap.size n A c L) (hM : IntR w w.heap.size m A' c' M) :
    Calls Tryd.prog 34 #[.agg #[.bool n, .slice A L.length c], .agg #[.bool m, .slice A' M.length c']] w fun e w' => ∃ k1 A1 c1 Q k2 A2 c2 R, e = .returned (.tuple #[.agg #[.bool k1, .slice A1 (List.length Q) c1], .agg #[.bool k2, .slice A2 (List.length R) c2], .int .i64 0]) ∧
      IntR w' w'.heap.size k1 A1 c1 Q ∧ IntR w' w'.heap.size k2 A2 c2 R ∧ zI k1 Q = Int.tdiv (zI n L) (zI m M) ∧ zI k2 R = Int.tmod (zI n L) (zI m M) ∧ List.length Q ≤ L.length ∧ List.length R ≤ L.length + 1 ∧ Below w.heap.size w w' := by
  have F := four_boxes w (.bool n) (.slice A L.length c) (.bool m) (.slice A' M.length c') (.bool false) (.slice none 0 0) (.bool false) (.slice none 0 0) 25 25 25 25
  have hdv := fun W h1 h2 => divide_any A A' c c' L M W hl hml hm0 hL.canon hM.canon h1 h2
  have HDV := Lib.hid hdv
  have hne : ((M.length : Int) == 0) = false := by rw [beq_eq_false_iff_ne]; omega
  clear hdv
  generalize hl' : L.length = l at *
  generalize hm' : M.length = l2 at *
  have HLL := Lib.hid hl'
  have HML := Lib.hid hm'
  clear hl' hm'
  go_enter Tryd.func34, Tryd.ntmps34
  go_upto_region 3 with (fail)
  change Code.wp Tryd.prog _ _ _ ((((w.alloc (.cells #[.bool n, .slice A l c] 25)).alloc (.cells #[.bool m, .slice A' l2 c'] 25)).alloc (.cells #[.bool false, .slice none 0 0] 25)).alloc (.cells #[.bool false, .slice none 0 0] 25))
  generalize (((w.alloc (.cells #[.bool n, .slice A l c] 25)).alloc (.cells #[.bool m, .slice A' l2 c'] 25)).alloc (.cells #[.bool false, .slice none 0 0] 25)).alloc (.cells #[.bool false, .slice none 0 0] 25) = W0 at *
  obtain ⟨b0, b1, b2, b3, hsz, hbw⟩ := F
  have S0 : St w W0 _ _ _ _ _ _ _ _ := ⟨b0, b1, b2, b3, hbw, by omega⟩
  have x0 := b0.c0
  have x1 := b0.c1
  have x2 := b1.c0
  have x3 := b1.c1
  go_wp2_with fail
  have rL := hL.row.up S0.bw
  have rM := hM.row.up S0.bw
  refine (HDV.out W0 rL rM).mono ?_
  rintro e w1 ⟨A1, c1, Q, A2, c2, R, rfl, rQ, rR, cQ, cR, hv, hlt, hlq, hlr, hb1⟩
  have S1 := S0.call hb1
  have hn1 : ¬ w.heap.size + 1 + 1 = w.heap.size := by omega
  have hn2 : ¬ w.heap.size + 1 + 1 + 1 = w.heap.size := by omega
  have hn3 : ¬ w.heap.size + 1 + 1 = w.heap.size + 1 := by omega
  have hn4 : ¬ w.heap.size + 1 + 1 + 1 = w.heap.size + 1 := by omega
  have hn5 : ¬ w.heap.size + 1 + 1 + 1 = w.heap.size + 1 + 1 := by omega
  have hn6 : ¬ w.heap.size + 1 + 1 = w.heap.size + 1 + 1 + 1 := by omega
  have x0 := S1.b0.c0
  have x1 := S1.b0.c1
  have x2 := S1.b1.c0
  have x3 := S1.b1.c1
  have y0 := S1.b2.c0
  have y1 := S1.b2.c1
  have y2 := S1.b3.c0
  have y3 := S1.b3.c1
  have z0 := S1.b2.f0
  have z1 := S1.b2.f1
  have z2 := S1.b3.f0
  have z3 := S1.b3.f1
  have HS1 := Lib.hid S1
  have HV := Lib.hid hv
  have HLT := Lib.hid hlt
  have RQ := Lib.hid rQ
  have RR := Lib.hid rR
  have HC := Lib.hid (below_drew (Below.refl w1.heap.size w1))
  clear S0 hb1 hbw hsz b0 b1 b2 b3 rL rM hv hlt S1 rQ rR
  generalize hlq' : List.length Q = lq at *
  generalize hlr' : List.length R = lr at *
  have HLQ := Lib.hid hlq'
  have HLR := Lib.hid hlr'
  clear hlq' hlr'
  go_wp2_with fail
  go_region_held3 (fun w' => w'.cell? ⟨w.heap.size, 0, none⟩ = some (.bool n) ∧ w'.cell? ⟨w.heap.size + 1, 0, none⟩ = some (.bool m)) (go_keep)
    (first
      | (go_at_call 42; (with_reducible refine (signed_any _ _ _ _ _).mono ?_); rintro e w4 ⟨rfl, hb4⟩; have HC9 := Lib.hid (below_then HC.out hb4 HC.out.size); clear HC; have HC := HC9; clear HC9 hb4 x0 x1 x2 x3 y0 y1 y2 y3 z0 z1 z2 z3; have S9 := HS1.out.call HC.out; have x0 := S9.b0.c0; have x1 := S9.b0.c1; have x2 := S9.b1.c0; have x3 := S9.b1.c1; have y0 := S9.b2.c0; have y1 := S9.b2.c1; have y2 := S9.b3.c0; have y3 := S9.b3.c1; have z0 := S9.b2.f0; have z1 := S9.b2.f1; have z2 := S9.b3.f0; have z3 := S9.b3.f1; clear S9))
  all_goals
    go_wp2
    have hS := HS1.out.call HC.out
    have hi1 : IntR w4 w4.heap.size (!(n == m) && decide (0 < lq)) A1 c1 Q := ⟨RQ.out.up HC.out, cQ, fun hk hR => by rw [← HLQ.out, hR] at hk; simp at hk⟩
    have hi2 : IntR w4 w4.heap.size (n && decide (0 < lr)) A2 c2 R := ⟨RR.out.up HC.out, cR, fun hk hR => by rw [← HLR.out, hR] at hk; simp at hk⟩
    refine bodyPost_ret (v := .tuple #[.agg #[.bool (!(n == m) && decide (0 < lq)), .slice A1 lq c1], .agg #[.bool (n && decide (0 < lr)), .slice A2 lr c2], .int .i64 0]) (by simp [results, Tryd.results34, go_sem, y0, y1, y2, y3]) rfl ?_
    rw [← HLQ.out] at hi1
    rw [← HLR.out] at hi2
    exact qr_post hS hi1 hi2 (by first | exact .inl rfl | exact .inr rfl) HV.out HLT.out (by rw [HLQ.out, ← HLL.out]; exact hlq) (by rw [HLR.out, ← HLL.out]; exact hlr) HLQ.out HLR.out
end Go.Proofs.YtbfbijokhlkekaaDoor

/- A region that draws its order, walked once: of each operation is said what its temporary then holds, as a fact that stays true while memory only grows. -/
namespace Go.Proofs.YtbfbijokhlkekaaDoor
open Go Go.RowKit

/-- What may be said of a value: it stays true while memory only grows. -/
structure Fact where
  p : Value → World → Prop
  st : ∀ v w w', Below w.heap.size w w' → p v w → p v w'
def Fact.triv : Fact := ⟨fun _ _ => True, fun _ _ _ _ _ => trivial⟩
def look : List (Nat × Fact) → Nat → Fact
  | [], _ => Fact.triv
  | (k, f) :: rest, d => bif Nat.beq k d then f else look rest d
def temps (FL : List (Nat × Fact)) : List Nat := FL.map (·.1)
def factOf (FL : List (Nat × Fact)) (dst : Option Nat) (v : Value) (w : World) : Prop := match dst with
  | none => True
  | some d => (look FL d).p v w
def Facts (FL : List (Nat × Fact)) (u : Nat → Value) (w : World) : List Nat → Prop
  | [] => True
  | d :: ds => (look FL d).p (u d) w ∧ Facts FL u w ds
theorem facts_mk {FL : List (Nat × Fact)} {u : Nat → Value} {w : World} {ds : List Nat} (h : ∀ d ∈ ds, (look FL d).p (u d) w) : Facts FL u w ds := by
  induction ds with
  | nil => trivial
  | cons d ds ih => exact ⟨h d (List.mem_cons_self ..), ih fun e he => h e (List.mem_cons_of_mem _ he)⟩
theorem facts_get {FL : List (Nat × Fact)} {u : Nat → Value} {w : World} {ds : List Nat} (h : Facts FL u w ds) (d : Nat) (hd : d ∈ ds) : (look FL d).p (u d) w := by
  induction ds with
  | nil => cases hd
  | cons e ds ih =>
    rcases List.mem_cons.1 hd with rfl | hd
    · exact h.1
    · exact ih h.2 hd
/-- The temporaries with the letters u in the places ds. -/
def fillL (u : Nat → Value) : List Nat → Array Value → Array Value
  | [], t => t
  | d :: ds, t => fillL u ds (t.setIfInBounds d (u d))
def upd (u : Nat → Value) (d : Option Nat) (v : Value) (n : Nat) : Value := match d with
  | none => u n
  | some d => if n = d then v else u n
theorem fillL_size (u : Nat → Value) (ds : List Nat) : ∀ t : Array Value, (fillL u ds t).size = t.size := by
  induction ds with
  | nil => intro t; rfl
  | cons d ds ih => intro t; rw [fillL, ih]; simp
theorem fillL_get (u : Nat → Value) (ds : List Nat) : ∀ (t : Array Value) (n : Nat), (fillL u ds t)[n]? = if n < t.size then (if n ∈ ds then some (u n) else t[n]?) else none := by
  induction ds with
  | nil => intro t n; by_cases h : n < t.size <;> simp [fillL, h]
  | cons d ds ih =>
    intro t n
    rw [fillL, ih]
    by_cases h : n < t.size
    · simp only [Array.size_setIfInBounds, h, if_true, List.mem_cons]
      by_cases h1 : n ∈ ds
      · simp [h1]
      · by_cases h2 : n = d
        · subst h2; simp [h1, h]
        · simp only [h1, h2, if_false, or_self]; rw [Array.getElem?_setIfInBounds_ne (Ne.symm h2)]
    · simp [h]
theorem fillL_upd (u : Nat → Value) (ds : List Nat) (t : Array Value) (d : Nat) (v : Value) (hd : d ∈ ds) : (fillL u ds t).setIfInBounds d v = fillL (upd u (some d) v) ds t := by
  apply Array.ext_getElem?
  intro n
  rw [Array.getElem?_setIfInBounds, fillL_get, fillL_get, fillL_size]
  by_cases h : n < t.size
  · by_cases h2 : d = n
    · subst h2; simp [h, hd, upd]
    · simp only [h, h2, if_true, if_false]
      by_cases h3 : n ∈ ds
      · simp [h3, upd, Ne.symm h2]
      · simp [h3]
  · simp only [h, if_false]
    by_cases h2 : d = n
    · subst h2; simp [h]
    · simp [h2]
theorem fillL_self (ds : List Nat) (t : Array Value) : fillL (fun d => t.getD d undef) ds t = t := by
  apply Array.ext_getElem?
  intro n
  rw [fillL_get]
  by_cases h : n < t.size
  · simp [h]
  · simp [h]

/-- Each fact that an operation asks for is that of an operation on which it waits, or is asked for by one; each waits for earlier ones alone; what is written is among the temporaries. -/
def anyChk (ops : Array Oper) (pt : List (List Nat)) (ds : List Nat) : Bool :=
  (List.range ops.size).all fun i => match ops[i]? with
    | none => true
    | some o => (o.after.all fun e => decide (e.on < i)) && (match o.dst with | some d => ds.contains d | none => true) &&
      (pt.getD i []).all fun d => o.after.any fun e => Region.binds .any e && ((match ops[e.on]? with | some o' => o'.dst == some d | none => false) || (pt.getD e.on []).contains d)
def allWritten (ops : Array Oper) (ds : List Nat) : Bool := ds.all fun d => ops.any fun o => o.dst == some d

theorem filter_less {p q : Nat → Bool} {i : Nat} (hpi : p i = true) (hqi : q i = false) (h : ∀ j, q j = true → p j = true) : ∀ l : List Nat, i ∈ l → (l.filter q).length < (l.filter p).length := by
  have hle : ∀ l : List Nat, (l.filter q).length ≤ (l.filter p).length := by
    intro l
    induction l with
    | nil => simp
    | cons x l ih =>
      rw [List.filter_cons, List.filter_cons]
      by_cases hq : q x = true
      · simp [hq, h x hq]; exact ih
      · by_cases hp : p x = true <;> simp [hq, hp] <;> omega
  intro l hl
  induction l with
  | nil => cases hl
  | cons x l ih =>
    rw [List.filter_cons, List.filter_cons]
    rcases List.mem_cons.1 hl with rfl | hl
    · simp [hpi, hqi]; have := hle l; omega
    · have := ih hl
      by_cases hq : q x = true
      · simp [hq, h x hq]; exact this
      · by_cases hp : p x = true <;> simp [hq, hp] <;> omega

section
variable {P : Program} {ops : Array Oper} {Q : Exit → Act → World → Prop} {FL : List (Nat × Fact)} {J : World → Prop} {t0 : Array Value} {df : List Deferred} {ds : List Nat}

/-- One operation: from what it waits for it leaves its own fact. -/
def StepOk (P : Program) (ops : Array Oper) (Q : Exit → Act → World → Prop) (FL : List (Nat × Fact)) (J : World → Prop) (t0 : Array Value) (df : List Deferred) (ds : List Nat) (o : Oper) (need : List Nat) : Prop :=
  ∀ (u : Nat → Value) (w : World), J w → Facts FL u w need → ∀ K : Act → World → Prop, Shut (∀ v w', J w' → Below w.heap.size w w' → factOf FL o.dst v w' → K ((⟨fillL u ds t0, df⟩ : Act).put o.dst v) w') →
    if Region.wanted o (yielded ops (fillL u ds t0)) = true then Oper.wp P o ⟨fillL u ds t0, df⟩ w K Q else K ((⟨fillL u ds t0, df⟩ : Act).put o.dst undef) w
def StepsOk (P : Program) (ops : Array Oper) (Q : Exit → Act → World → Prop) (FL : List (Nat × Fact)) (J : World → Prop) (t0 : Array Value) (df : List Deferred) (ds : List Nat) : List Oper → List (List Nat) → Prop
  | [], _ => True
  | o :: rest, [] => StepOk P ops Q FL J t0 df ds o [] ∧ StepsOk P ops Q FL J t0 df ds rest []
  | o :: rest, n :: ns => StepOk P ops Q FL J t0 df ds o n ∧ StepsOk P ops Q FL J t0 df ds rest ns
theorem steps_at : ∀ (l : List Oper) (pt : List (List Nat)), StepsOk P ops Q FL J t0 df ds l pt → ∀ i o, l[i]? = some o → StepOk P ops Q FL J t0 df ds o (pt.getD i []) := by
  intro l
  induction l with
  | nil => intro pt _ i o h; simp at h
  | cons x l ih =>
    intro pt hs i o h
    cases pt with
    | nil =>
      cases i with
      | zero => simp at h; subst h; exact hs.1
      | succ i => have := ih [] hs.2 i o (by simpa using h); simpa using this
    | cons n ns =>
      cases i with
      | zero => simp at h; subst h; exact hs.1
      | succ i => have := ih ns hs.2 i o (by simpa using h); simpa using this

def Written (ops : Array Oper) (listed : Array Bool) (d : Nat) : Prop := ∃ j o', listed.getD j false = true ∧ ops[j]? = some o' ∧ o'.dst = some d
structure Inv (ops : Array Oper) (FL : List (Nat × Fact)) (J : World → Prop) (t0 : Array Value) (df : List Deferred) (ds : List Nat) (pt : List (List Nat)) (listed : Array Bool) (a : Act) (w : World) : Prop where
  j : J w
  fr : ∃ u, a = ⟨fillL u ds t0, df⟩ ∧ ∀ d, Written ops listed d → (look FL d).p (u d) w
  cl : ∀ i, listed.getD i false = true → ∀ d ∈ pt.getD i [], Written ops listed d
  sz : listed.size = ops.size

theorem Written.more {listed : Array Bool} {d i : Nat} (h : Written ops listed d) : Written ops (listed.setIfInBounds i true) d := by
  obtain ⟨j, o', h1, h2, h3⟩ := h
  exact ⟨j, o', getD_set_true h1, h2, h3⟩

theorem anyChk_spec {pt : List (List Nat)} (h : anyChk ops pt ds = true) {i : Nat} {o : Oper} (ho : ops[i]? = some o) :
    (∀ e ∈ o.after, e.on < i) ∧ (∀ d, o.dst = some d → d ∈ ds) ∧ (∀ d ∈ pt.getD i [], ∃ e ∈ o.after, Region.binds .any e = true ∧ ((∃ o', ops[e.on]? = some o' ∧ o'.dst = some d) ∨ d ∈ pt.getD e.on [])) := by
  have hlt : i < ops.size := (Array.getElem?_eq_some_iff.1 ho).1
  unfold anyChk at h
  rw [List.all_eq_true] at h
  have h1 := h i (List.mem_range.2 hlt)
  rw [ho] at h1
  simp only [Bool.and_eq_true] at h1
  obtain ⟨⟨ha, hb⟩, hc⟩ := h1
  refine ⟨fun e he => ?_, fun d hd => ?_, fun d hd => ?_⟩
  · rw [Array.all_eq_true_iff_forall_mem] at ha
    exact of_decide_eq_true (ha e he)
  · rw [hd] at hb
    simpa using hb
  · rw [List.all_eq_true] at hc
    have h2 := hc d hd
    rw [Array.any_eq_true] at h2
    obtain ⟨k, hk, h3⟩ := h2
    rw [Bool.and_eq_true, Bool.or_eq_true] at h3
    refine ⟨o.after[k], Array.getElem_mem _, h3.1, ?_⟩
    rcases h3.2 with h4 | h4
    · left
      cases h5 : ops[(o.after[k]).on]? with
      | none => rw [h5] at h4; cases h4
      | some o' => rw [h5] at h4; exact ⟨o', rfl, by simpa using h4⟩
    · right; simpa using h4

theorem put_fill (u : Nat → Value) (o : Oper) (v : Value) (hd : ∀ d, o.dst = some d → d ∈ ds) : (⟨fillL u ds t0, df⟩ : Act).put o.dst v = ⟨fillL (upd u o.dst v) ds t0, df⟩ := by
  cases h : o.dst with
  | none => rfl
  | some d =>
    show Act.mk ((fillL u ds t0).setIfInBounds d v) df = _
    rw [fillL_upd _ _ _ _ _ (hd d h)]

theorem inv_step {pt : List (List Nat)} (hchk : anyChk ops pt ds = true) (hs : StepsOk P ops Q FL J t0 df ds ops.toList pt) {listed : Array Bool} {a : Act} {w : World} (hI : Inv ops FL J t0 df ds pt listed a w) {i : Nat} (hi : i ∈ Region.ready .any ops listed) :
    wpOp P ops Q i (Inv ops FL J t0 df ds pt (listed.setIfInBounds i true)) a w := by
  obtain ⟨h0, o, ho, hall⟩ := mem_ready.1 hi
  obtain ⟨c1, c2, c3⟩ := anyChk_spec hchk ho
  obtain ⟨u, rfl, hfac⟩ := hI.fr
  have hlt : i < ops.size := (Array.getElem?_eq_some_iff.1 ho).1
  have hneed : ∀ d ∈ pt.getD i [], Written ops listed d := by
    intro d hd
    obtain ⟨e, he, hb, h1⟩ := c3 d hd
    have h2 := hall e he hb
    rcases h1 with ⟨o', h3, h4⟩ | h3
    · exact ⟨e.on, o', h2, h3, h4⟩
    · exact hI.cl e.on h2 d h3
  have hst := steps_at _ _ hs i o (by simpa using ho) u w hI.j (facts_mk fun d hd => hfac d (hneed d hd))
  refine wpOp_step ho (fun K' hK => hst K' ?_)
  intro v w' hj hb hf
  refine hK _ _ ⟨hj, ⟨upd u o.dst v, put_fill u o v c2, ?_⟩, ?_, by simpa using hI.sz⟩
  · rintro d ⟨j, o', h1, h2, h3⟩
    by_cases hd : o.dst = some d
    · rw [hd] at hf ⊢
      have e : upd u (some d) v d = v := by simp [upd]
      rw [e]; exact hf
    · have hw : Written ops listed d := by
        by_cases hij : i = j
        · subst hij
          rw [ho] at h2
          injection h2 with h2
          subst h2
          exact absurd h3 hd
        · rw [getD_set_ne false hij] at h1
          exact ⟨j, o', h1, h2, h3⟩
      have e : upd u o.dst v d = u d := by
        cases h : o.dst with
        | none => rfl
        | some d' => rw [h] at hd; simp only [upd]; rw [if_neg (fun h => hd (by rw [h]))]
      rw [e]
      exact (look FL d).st _ _ _ hb (hfac d hw)
  · intro k hk d hd
    by_cases hik : i = k
    · subst hik
      exact (hneed d hd).more
    · rw [getD_set_ne false hik] at hk
      exact (hI.cl k hk d hd).more

theorem ready_nil_all {pt : List (List Nat)} (hchk : anyChk ops pt ds = true) {listed : Array Bool} (hsz : listed.size = ops.size) (hr : Region.ready .any ops listed = []) : ∀ n i, i < n → i < ops.size → listed.getD i false = true := by
  intro n
  induction n with
  | zero => intro i h; omega
  | succ n ih =>
    intro i hin hi
    have hil : i < listed.size := by omega
    cases hv : listed.getD i false with
    | true => rfl
    | false =>
      exfalso
      have ho : ops[i]? = some ops[i] := by simp [hi]
      obtain ⟨c1, -, -⟩ := anyChk_spec hchk ho
      have : i ∈ Region.ready .any ops listed := by
        rw [mem_ready]
        refine ⟨by simp [hil] at hv ⊢; exact hv, _, ho, fun e he _ => ?_⟩
        have h1 := c1 e he
        exact ih e.on (by omega) (by omega)
      rw [hr] at this
      cases this

theorem wpAny_inv {pt : List (List Nat)} (hchk : anyChk ops pt ds = true) (hall : allWritten ops ds = true) (hs : StepsOk P ops Q FL J t0 df ds ops.toList pt)
    (hend : ∀ u w, J w → Facts FL u w ds → Q .normal ⟨fillL u ds t0, df⟩ w) :
    ∀ (fuel : Nat) (listed : Array Bool) (a : Act) (w : World), ((List.range ops.size).filter fun j => !listed.getD j true).length ≤ fuel → Inv ops FL J t0 df ds pt listed a w → wpAny P .any ops Q fuel listed a w := by
  have hfin : ∀ (listed : Array Bool) (a : Act) (w : World), Inv ops FL J t0 df ds pt listed a w → Region.ready .any ops listed = [] → Q .normal a w := by
    intro listed a w hI hr
    obtain ⟨u, rfl, hfac⟩ := hI.fr
    refine hend u w hI.j (facts_mk fun d hd => hfac d ?_)
    unfold allWritten at hall
    rw [List.all_eq_true] at hall
    have h1 := hall d hd
    rw [Array.any_eq_true] at h1
    obtain ⟨k, hk, h2⟩ := h1
    exact ⟨k, ops[k], ready_nil_all hchk hI.sz hr (k + 1) k (by omega) hk, by simp [hk], by simpa using h2⟩
  intro fuel
  induction fuel with
  | zero =>
    intro listed a w hc hI
    have hr : Region.ready .any ops listed = [] := by
      rw [List.eq_nil_iff_forall_not_mem]
      intro j hj
      obtain ⟨h0, o, ho, -⟩ := mem_ready.1 hj
      have hlt : j < ops.size := (Array.getElem?_eq_some_iff.1 ho).1
      have hm : j ∈ (List.range ops.size).filter fun j => !listed.getD j true := by
        rw [List.mem_filter]
        exact ⟨List.mem_range.2 hlt, by rw [h0]; rfl⟩
      have := List.length_pos_of_mem hm
      omega
    exact ⟨hr, hfin _ _ _ hI hr⟩
  | succ fuel ih =>
    intro listed a w hc hI
    refine ⟨fun hr => hfin _ _ _ hI hr, fun i hi => ?_⟩
    obtain ⟨h0, o, ho, -⟩ := mem_ready.1 hi
    have hlt : i < ops.size := (Array.getElem?_eq_some_iff.1 ho).1
    refine wpOp_mono (fun a' w' hI' => ih _ a' w' ?_ hI') (inv_step hchk hs hI hi)
    have := filter_less (p := fun j => !listed.getD j true) (q := fun j => !(listed.setIfInBounds i true).getD j true) (i := i) (by simp only [h0]; rfl) (by
      have hil : i < listed.size := by rw [hI.sz]; exact hlt
      simp [hil]) (fun j hj => by
      by_cases hij : i = j
      · subst hij
        exfalso
        have hil : i < listed.size := by rw [hI.sz]; exact hlt
        simp [hil] at hj
      · rw [getD_set_ne true hij] at hj; exact hj) (List.range ops.size) (List.mem_range.2 hlt)
    omega

theorem none_listed (n j : Nat) : (Array.replicate n false).getD j false = false := by
  by_cases h : j < n <;> simp [h]
/-- One operation, the temporaries written out. -/
def StepFr (P : Program) (ops : Array Oper) (Q : Exit → Act → World → Prop) (FL : List (Nat × Fact)) (J : World → Prop) (fr : (Nat → Value) → Array Value) (df : List Deferred) (o : Oper) (need : List Nat) : Prop :=
  ∀ (u : Nat → Value) (w : World), J w → Facts FL u w need → ∀ K : Act → World → Prop, Shut (∀ v w', J w' → Below w.heap.size w w' → factOf FL o.dst v w' → K ((⟨fr u, df⟩ : Act).put o.dst v) w') →
    if Region.wanted o (yielded ops (fr u)) = true then Oper.wp P o ⟨fr u, df⟩ w K Q else K ((⟨fr u, df⟩ : Act).put o.dst undef) w
def StepsFr (P : Program) (ops : Array Oper) (Q : Exit → Act → World → Prop) (FL : List (Nat × Fact)) (J : World → Prop) (fr : (Nat → Value) → Array Value) (df : List Deferred) : List Oper → List (List Nat) → Prop
  | [], _ => True
  | o :: rest, [] => StepFr P ops Q FL J fr df o [] ∧ StepsFr P ops Q FL J fr df rest []
  | o :: rest, n :: ns => StepFr P ops Q FL J fr df o n ∧ StepsFr P ops Q FL J fr df rest ns
theorem StepsFr.nil {fr : (Nat → Value) → Array Value} {pt : List (List Nat)} : StepsFr P ops Q FL J fr df [] pt := by cases pt <;> trivial
theorem StepsFr.cons {fr : (Nat → Value) → Array Value} {o : Oper} {rest : List Oper} {n : List Nat} {ns : List (List Nat)} (h : StepFr P ops Q FL J fr df o n) (hs : StepsFr P ops Q FL J fr df rest ns) : StepsFr P ops Q FL J fr df (o :: rest) (n :: ns) := ⟨h, hs⟩
theorem stepsFr_ok {fr : (Nat → Value) → Array Value} (hfr : ∀ u, fillL u ds t0 = fr u) : ∀ (l : List Oper) (pt : List (List Nat)), StepsFr P ops Q FL J fr df l pt → StepsOk P ops Q FL J t0 df ds l pt := by
  have h1 : ∀ o n, StepFr P ops Q FL J fr df o n → StepOk P ops Q FL J t0 df ds o n := by
    intro o n h u w hJ hF K hK
    rw [hfr] at hK ⊢
    exact h u w hJ hF K hK
  intro l
  induction l with
  | nil => intro pt _; cases pt <;> trivial
  | cons o l ih =>
    intro pt h
    cases pt with
    | nil => exact ⟨h1 _ _ h.1, ih _ h.2⟩
    | cons n ns => exact ⟨h1 _ _ h.1, ih _ h.2⟩
/-- A region that draws its order: each operation once. -/
theorem region_facts {id : Nat} {w : World} {opl : List Oper} (FL : List (Nat × Fact)) (J : World → Prop) (pt : List (List Nat)) {fr : (Nat → Value) → Array Value} (hfr : ∀ u, fillL u (temps FL) t0 = fr u)
    (hm : P.follows .mixedOrders = true) (hchk : anyChk opl.toArray pt (temps FL) = true) (hall : allWritten opl.toArray (temps FL) = true) (hJ : J w.drew)
    (hs : StepsFr P opl.toArray Q FL J fr df opl pt)
    (hend : ∀ u w, J w → Facts FL u w (temps FL) → Q .normal ⟨fr u, df⟩ w) : (Code.region id opl.toArray true).wp P Q ⟨t0, df⟩ w := by
  refine wp_region_any hm (wpAny_inv (ds := temps FL) (t0 := t0) (df := df) hchk hall (stepsFr_ok hfr _ _ hs) (fun u w hj hf => by rw [hfr]; exact hend u w hj hf) opl.toArray.size _ _ _ ?_ ⟨hJ, ⟨fun d => t0.getD d undef, by rw [fillL_self], ?_⟩, ?_, by simp⟩)
  · exact Nat.le_trans (List.length_filter_le _ _) (by simp)
  · rintro d ⟨j, o', h1, -, -⟩
    rw [none_listed] at h1; cases h1
  · intro i hi
    rw [none_listed] at hi; cases hi
end
end Go.Proofs.YtbfbijokhlkekaaDoor

/- 'both' of two texts of at most 600 bytes. -/
namespace Go.Proofs.YtbfbijokhlkekaaDoor
open Go.RowKit

set_option maxRecDepth 20000 in
set_option maxHeartbeats 6400000 in
theorem both_short (s t : ByteArray) (w : World) (hs : s.size ≤ 600) (ht : t.size ≤ 600) : Calls Tryd.prog 22 #[.string s, .string t] w (BothPost s t w) := by
  have F := four_boxes w (.bool false) (.slice none 0 0) (.bool false) (.slice none 0 0) (.bool false) (.slice none 0 0) (.bool false) (.slice none 0 0) 25 25 31 31
  have P1 := Lib.hid (fun W => parse_any s W (by omega))
  have P2 := Lib.hid (fun W => parse_any t W (by omega))
  have R1 := Lib.hid (fun W => rparse_any s W (by omega))
  have R2 := Lib.hid (fun W => rparse_any t W (by omega))
  go_enter Tryd.func22, Tryd.ntmps22
  go_wp2_with fail
  change Calls Tryd.prog 13 #[.string s] ((((w.alloc (.cells #[.bool false, .slice none 0 0] 25)).alloc (.cells #[.bool false, .slice none 0 0] 25)).alloc (.cells #[.bool false, .slice none 0 0] 31)).alloc (.cells #[.bool false, .slice none 0 0] 31)) _
  generalize (((w.alloc (.cells #[.bool false, .slice none 0 0] 25)).alloc (.cells #[.bool false, .slice none 0 0] 25)).alloc (.cells #[.bool false, .slice none 0 0] 31)).alloc (.cells #[.bool false, .slice none 0 0] 31) = W0 at *
  obtain ⟨b0, b1, b2, b3, hsz, hbw⟩ := F
  have S0 : St w W0 _ _ _ _ _ _ _ _ := ⟨b0, b1, b2, b3, hbw, by omega⟩
  clear b0 b1 b2 b3 hsz hbw
  refine (P1.out _).mono ?_
  rintro e w1 ⟨k1, A1, c1, L1, rfl, hi1, hl1, hok1, hno1, hb1⟩
  have S1 := S0.call hb1
  clear S0 hb1
  have x0 := S1.b0.c0
  have y0 := S1.b0.c1
  have p0 := S1.b0.f0
  have q0 := S1.b0.f1
  go_wp2_with fail
  change Calls Tryd.prog 13 #[.string t] (setPair w1 w.heap.size (.bool k1) (.slice A1 (List.length L1) c1)) _
  have S2 := S1.s0 (.bool k1) (.slice A1 (List.length L1) c1)
  have I1 := IntR.pair S1.b0 hi1 (.bool k1) (.slice A1 (List.length L1) c1)
  have hz1 := setPair_size w1 w.heap.size (.bool k1) (.slice A1 (List.length L1) c1)
  generalize setPair w1 w.heap.size (.bool k1) (.slice A1 (List.length L1) c1) = W1 at *
  rw [← hz1] at I1
  clear S1 hi1 x0 y0 p0 q0 hz1
  refine (P2.out _).mono ?_
  rintro e w2 ⟨k2, A2, c2, L2, rfl, hi2, hl2, hok2, hno2, hb2⟩
  have S3 := S2.call hb2
  have I2 := I1.lift1 hb2 (Nat.le_refl _)
  clear S2 hb2 I1
  have x0 := S3.b1.c0
  have y0 := S3.b1.c1
  have p0 := S3.b1.f0
  have q0 := S3.b1.f1
  go_wp2_with fail
  change Calls Tryd.prog 14 #[.string s] (setPair w2 (w.heap.size + 1) (.bool k2) (.slice A2 (List.length L2) c2)) _
  have S4 := S3.s1 (.bool k2) (.slice A2 (List.length L2) c2)
  have I3 := IntR.pair S3.b1 I2 (.bool k2) (.slice A2 (List.length L2) c2)
  have J3 := IntR.pair S3.b1 hi2 (.bool k2) (.slice A2 (List.length L2) c2)
  have hz1 := setPair_size w2 (w.heap.size + 1) (.bool k2) (.slice A2 (List.length L2) c2)
  generalize setPair w2 (w.heap.size + 1) (.bool k2) (.slice A2 (List.length L2) c2) = W2 at *
  rw [← hz1] at I3 J3
  clear S3 hi2 x0 y0 p0 q0 hz1 I2
  refine (R1.out _).mono ?_
  rintro e w3 ⟨k3, A3, c3, L3, rfl, hi3, hl3, hok3, hno3, hb3⟩
  have S5 := S4.call hb3
  have I4 := I3.lift1 hb3 (Nat.le_refl _)
  have J4 := J3.lift1 hb3 (Nat.le_refl _)
  clear S4 hb3 I3 J3
  have x0 := S5.b2.c0
  have y0 := S5.b2.c1
  have p0 := S5.b2.f0
  have q0 := S5.b2.f1
  go_wp2_with fail
  change Calls Tryd.prog 14 #[.string t] (setPair w3 (w.heap.size + 1 + 1) (.bool k3) (.slice A3 (List.length L3) c3)) _
  have S6 := S5.s2 (.bool k3) (.slice A3 (List.length L3) c3)
  have I5 := IntR.pair S5.b2 I4 (.bool k3) (.slice A3 (List.length L3) c3)
  have J5 := IntR.pair S5.b2 J4 (.bool k3) (.slice A3 (List.length L3) c3)
  have M5 := RefR.pair S5.b2 hi3 (.bool k3) (.slice A3 (List.length L3) c3)
  have hz1 := setPair_size w3 (w.heap.size + 1 + 1) (.bool k3) (.slice A3 (List.length L3) c3)
  generalize setPair w3 (w.heap.size + 1 + 1) (.bool k3) (.slice A3 (List.length L3) c3) = W3 at *
  rw [← hz1] at I5 J5 M5
  clear S5 hi3 x0 y0 p0 q0 hz1 I4 J4
  refine (R2.out _).mono ?_
  rintro e w4 ⟨k4, A4, c4, L4, rfl, hi4, hl4, hok4, hno4, hb4⟩
  have S7 := S6.call hb4
  have I6 := I5.lift1 hb4 (Nat.le_refl _)
  have J6 := J5.lift1 hb4 (Nat.le_refl _)
  have M6 := M5.lift hb4 (Nat.le_refl _)
  clear S6 hb4 I5 J5 M5
  have x0 := S7.b3.c0
  have y0 := S7.b3.c1
  have p0 := S7.b3.f0
  have q0 := S7.b3.f1
  go_wp2_with fail
  change Code.wp Tryd.prog _ _ _ (setPair w4 (w.heap.size + 1 + 1 + 1) (.bool k4) (.slice A4 (List.length L4) c4))
  have S8 := S7.s3 (.bool k4) (.slice A4 (List.length L4) c4)
  have I7 := IntR.pair S7.b3 I6 (.bool k4) (.slice A4 (List.length L4) c4)
  have J7 := IntR.pair S7.b3 J6 (.bool k4) (.slice A4 (List.length L4) c4)
  have M7 := RefR.pair S7.b3 M6 (.bool k4) (.slice A4 (List.length L4) c4)
  have N7 := RefR.pair S7.b3 hi4 (.bool k4) (.slice A4 (List.length L4) c4)
  have hz1 := setPair_size w4 (w.heap.size + 1 + 1 + 1) (.bool k4) (.slice A4 (List.length L4) c4)
  generalize setPair w4 (w.heap.size + 1 + 1 + 1) (.bool k4) (.slice A4 (List.length L4) c4) = W4 at *
  rw [← hz1] at I7 J7 M7 N7
  clear S7 x0 y0 p0 q0 hz1 I6 J6 M6 hi4
  have x0 := S8.b0.c0
  have y0 := S8.b0.c1
  have p0 := S8.b0.f0
  have q0 := S8.b0.f1
  have x1 := S8.b1.c0
  have y1 := S8.b1.c1
  have p1 := S8.b1.f0
  have q1 := S8.b1.f1
  have x2 := S8.b2.c0
  have y2 := S8.b2.c1
  have p2 := S8.b2.f0
  have q2 := S8.b2.f1
  have x3 := S8.b3.c0
  have y3 := S8.b3.c1
  have p3 := S8.b3.f0
  have q3 := S8.b3.f1
  have HS8 := Lib.hid S8
  have HI7 := Lib.hid I7
  have HJ7 := Lib.hid J7
  have HM7 := Lib.hid M7
  have HN7 := Lib.hid N7
  clear S8 I7 J7 M7 N7
  have n1 : ¬ w.heap.size = w.heap.size + 1 + 1 := by omega
  have n2 : ¬ w.heap.size = w.heap.size + 1 + 1 + 1 := by omega
  have n3 : ¬ w.heap.size + 1 = w.heap.size + 1 + 1 + 1 := by omega
  have n4 : ¬ w.heap.size + 1 + 1 = w.heap.size := by omega
  have n5 : ¬ w.heap.size + 1 + 1 + 1 = w.heap.size := by omega
  have n6 : ¬ w.heap.size + 1 + 1 + 1 = w.heap.size + 1 := by omega
  have ks0 := keep0
  have ks1 := keep1
  have hpost : ∀ (ok : Bool) (W : World), (ok = true → errOf s.data.toList = 0 ∧ errOf t.data.toList = 0) → St w W (.bool k1) (.slice A1 (List.length L1) c1) (.bool k2) (.slice A2 (List.length L2) c2) (.bool k3) (.slice A3 (List.length L3) c3) (.bool k4) (.slice A4 (List.length L4) c4) →
      IntR W W.heap.size k1 A1 c1 L1 → IntR W W.heap.size k2 A2 c2 L2 → RefR W W.heap.size k3 A3 c3 L3 → RefR W W.heap.size k4 A4 c4 L4 →
      BothPost s t w (.returned (.tuple #[.agg #[.bool k1, .slice A1 (List.length L1) c1], .agg #[.bool k2, .slice A2 (List.length L2) c2], .agg #[.bool k3, .slice A3 (List.length L3) c3], .agg #[.bool k4, .slice A4 (List.length L4) c4], .bool ok])) W := by
    intro ok W hk hS h1 h2 h3 h4
    refine ⟨k1, A1, c1, L1, k2, A2, c2, L2, k3, A3, c3, L3, k4, A4, c4, L4, ok, rfl, h1, h2, h3, h4, hl1, hl2, hl3, hl4, fun h => ?_, hS.bw⟩
    obtain ⟨e1, e2⟩ := hk h
    exact ⟨e1, e2, (hok1.out e1).1, (hok1.out e1).2, (hok2.out e2).1, (hok2.out e2).2, (hok3.out e1).1, (hok3.out e1).2, (hok4.out e2).1, (hok4.out e2).2⟩
  have HP := Lib.hid hpost
  clear hpost hok1 hok2 hok3 hok4 hno1 hno2 hno3 hno4 hl1 hl2 hl3 hl4
  generalize errOf s.data.toList = er1 at *
  generalize errOf t.data.toList = er2 at *
  by_cases h1 : er1 = 0
  · by_cases h2 : er2 = 0
    · subst h1
      subst h2
      go_region_held3 (fun w' => w'.cell? ⟨w.heap.size, 0, none⟩ = some (.bool k1) ∧ w'.cell? ⟨w.heap.size, 1, none⟩ = some (.slice A1 (List.length L1) c1) ∧
        w'.cell? ⟨w.heap.size + 1, 0, none⟩ = some (.bool k2) ∧ w'.cell? ⟨w.heap.size + 1, 1, none⟩ = some (.slice A2 (List.length L2) c2) ∧
        w'.cell? ⟨w.heap.size + 1 + 1, 0, none⟩ = some (.bool k3) ∧ w'.cell? ⟨w.heap.size + 1 + 1, 1, none⟩ = some (.slice A3 (List.length L3) c3) ∧
        w'.cell? ⟨w.heap.size + 1 + 1 + 1, 0, none⟩ = some (.bool k4) ∧ w'.cell? ⟨w.heap.size + 1 + 1 + 1, 1, none⟩ = some (.slice A4 (List.length L4) c4)) (go_keep)
      (fail)
      all_goals
        go_wp2
        refine bodyPost_ret (v := .tuple #[.agg #[.bool k1, .slice A1 (List.length L1) c1], .agg #[.bool k2, .slice A2 (List.length L2) c2], .agg #[.bool k3, .slice A3 (List.length L3) c3], .agg #[.bool k4, .slice A4 (List.length L4) c4], .bool true]) (by simp [results, Tryd.results22, go_sem, x0, y0, x1, y1, x2, y2, x3, y3]) rfl ?_
        exact HP.out true _ (fun _ => ⟨trivial, trivial⟩) (St.last HS8.out) (IntR.last HS8.out HI7.out) (IntR.last HS8.out HJ7.out) (RefR.last HS8.out HM7.out) (RefR.last HS8.out HN7.out)
    · subst h1
      have g2 : ((er2 : Int) == 0) = false := by rw [beq_eq_false_iff_ne]; exact h2
      clear ks0 ks1
      go_region
      all_goals
        go_wp2
        refine bodyPost_ret (v := .tuple #[.agg #[.bool k1, .slice A1 (List.length L1) c1], .agg #[.bool k2, .slice A2 (List.length L2) c2], .agg #[.bool k3, .slice A3 (List.length L3) c3], .agg #[.bool k4, .slice A4 (List.length L4) c4], .bool false]) (by simp [results, Tryd.results22, go_sem, x0, y0, x1, y1, x2, y2, x3, y3]) rfl ?_
        exact HP.out false _ (fun h => absurd h Bool.false_ne_true) (St.last HS8.out) (IntR.last HS8.out HI7.out) (IntR.last HS8.out HJ7.out) (RefR.last HS8.out HM7.out) (RefR.last HS8.out HN7.out)
  · have g1 : ((er1 : Int) == 0) = false := by rw [beq_eq_false_iff_ne]; exact h1
    clear ks0 ks1
    go_region
    all_goals
      go_wp2
      refine bodyPost_ret (v := .tuple #[.agg #[.bool k1, .slice A1 (List.length L1) c1], .agg #[.bool k2, .slice A2 (List.length L2) c2], .agg #[.bool k3, .slice A3 (List.length L3) c3], .agg #[.bool k4, .slice A4 (List.length L4) c4], .bool false]) (by simp [results, Tryd.results22, go_sem, x0, y0, x1, y1, x2, y2, x3, y3]) rfl ?_
      exact HP.out false _ (fun h => absurd h Bool.false_ne_true) (St.last HS8.out) (IntR.last HS8.out HI7.out) (IntR.last HS8.out HJ7.out) (RefR.last HS8.out HM7.out) (RefR.last HS8.out HN7.out)

theorem both_any (s t : ByteArray) (w : World) : Calls Tryd.prog 22 #[.string s, .string t] w (BothPost s t w) := by
  by_cases h1 : 600 < s.size
  · exact both_long s t w (.inl h1)
  · by_cases h2 : 600 < t.size
    · exact both_long s t w (.inr h2)
    · exact both_short s t w (by omega) (by omega)
end Go.Proofs.YtbfbijokhlkekaaDoor

/- The product of limbs of four digits. -/
namespace Go.Proofs.YtbfbijokhlkekaaDoor

/-- All numbers of a row are limbs. -/
def Lim4 (L : List Nat) : Prop := ∀ d ∈ L, d < 10000
theorem Lim4.nth {L : List Nat} (h : Lim4 L) (k : Nat) : nth L k < 10000 := nth_all h (by omega) k
theorem Lim4.set {L : List Nat} (h : Lim4 L) (i : Nat) {x : Nat} (hx : x < 10000) : Lim4 (L.set i x) := fun d hd => by
  rcases List.mem_or_eq_of_mem_set hd with h1 | h1
  · exact h d h1
  · omega
theorem Lim4.take {L : List Nat} (h : Lim4 L) (n : Nat) : Lim4 (L.take n) := fun d hd => h d (List.mem_of_mem_take hd)
theorem Lim4.drop {L : List Nat} (h : Lim4 L) (n : Nat) : Lim4 (L.drop n) := fun d hd => h d (List.mem_of_mem_drop hd)

/-- One round of a product: x times the number j of B is added to place o + j, with a carry. -/
def mulRow4 (x o : Nat) (B M : List Nat) : Nat → List Nat × Nat
  | 0 => (M, 0)
  | j + 1 => ((mulRow4 x o B M j).1.set (o + j) ((nth (mulRow4 x o B M j).1 (o + j) + x * nth B j + (mulRow4 x o B M j).2) % 10000),
      (nth (mulRow4 x o B M j).1 (o + j) + x * nth B j + (mulRow4 x o B M j).2) / 10000)
theorem mulRow_succ4 (x o : Nat) (B M : List Nat) (j : Nat) : mulRow4 x o B M (j + 1) =
    ((mulRow4 x o B M j).1.set (o + j) ((nth (mulRow4 x o B M j).1 (o + j) + x * nth B j + (mulRow4 x o B M j).2) % 10000),
      (nth (mulRow4 x o B M j).1 (o + j) + x * nth B j + (mulRow4 x o B M j).2) / 10000) := rfl
theorem mul_lt_lim4 {x y : Nat} (hx : x < 10000) (hy : y < 10000) : x * y ≤ 99980001 := by
  have : x * y ≤ 9999 * 9999 := Nat.mul_le_mul (by omega) (by omega)
  omega
theorem mul_lt_limI4 {x y : Nat} (hx : x < 10000) (hy : y < 10000) : (x : Int) * (y : Int) ≤ 99980001 := by
  have h := mul_lt_lim4 hx hy
  have e : ((x * y : Nat) : Int) = (x : Int) * (y : Int) := by simp
  omega
theorem mul_nonnegI4 (x y : Nat) : 0 ≤ (x : Int) * (y : Int) := by
  have e : ((x * y : Nat) : Int) = (x : Int) * (y : Int) := by simp
  omega
theorem mulRow_ok4 {x o : Nat} {B M : List Nat} (hx : x < 10000) (hB : Lim4 B) (hM : Lim4 M) (j : Nat) :
    Lim4 (mulRow4 x o B M j).1 ∧ (mulRow4 x o B M j).2 < 10000 ∧ (mulRow4 x o B M j).1.length = M.length := by
  induction j with
  | zero => exact ⟨hM, by simp [mulRow4], rfl⟩
  | succ j ih =>
    obtain ⟨h1, h2, h3⟩ := ih
    have a := h1.nth (o + j)
    have b := mul_lt_lim4 hx (hB.nth j)
    rw [mulRow_succ4]
    exact ⟨h1.set _ (Nat.mod_lt _ (by omega)), by show _ / _ < _; omega, by simp [h3]⟩

/-- A product: after i rounds. -/
def mulSt4 (A B M : List Nat) : Nat → List Nat
  | 0 => M
  | i + 1 => (mulRow4 (nth A i) i B (mulSt4 A B M i) B.length).1.set (i + B.length) (mulRow4 (nth A i) i B (mulSt4 A B M i) B.length).2
theorem mulSt_succ4 (A B M : List Nat) (i : Nat) : mulSt4 A B M (i + 1) =
    (mulRow4 (nth A i) i B (mulSt4 A B M i) B.length).1.set (i + B.length) (mulRow4 (nth A i) i B (mulSt4 A B M i) B.length).2 := rfl
theorem mulSt_ok4 {A B M : List Nat} (hA : Lim4 A) (hB : Lim4 B) (hM : Lim4 M) (i : Nat) : Lim4 (mulSt4 A B M i) ∧ (mulSt4 A B M i).length = M.length := by
  induction i with
  | zero => exact ⟨hM, rfl⟩
  | succ i ih =>
    obtain ⟨a, b, c⟩ := mulRow_ok4 (o := i) (hA.nth i) hB ih.1 B.length
    rw [mulSt_succ4]
    exact ⟨a.set _ b, by simp [c, ih.2]⟩
theorem mulRow_val4 {x o : Nat} {B M : List Nat} (ho : o + B.length ≤ M.length) (j : Nat) (hj : j ≤ B.length) (hM : Lim4 M) (hB : Lim4 B) (hx : x < 10000) :
    valB 10000 (mulRow4 x o B M j).1 + 10000 ^ (o + j) * (mulRow4 x o B M j).2 = valB 10000 M + 10000 ^ o * (x * valB 10000 (B.take j)) := by
  induction j with
  | zero => simp [mulRow4, valB]
  | succ j ih =>
    replace ih := ih (by omega)
    have hl := (mulRow_ok4 (o := o) hx hB hM j).2.2
    rw [mulRow_succ4, valB_take_succ _ _ _ (by omega)]
    have hs := valB_set 10000 (mulRow4 x o B M j).1 (o + j) ((nth (mulRow4 x o B M j).1 (o + j) + x * nth B j + (mulRow4 x o B M j).2) % 10000) (by omega)
    generalize mulRow4 x o B M j = q at *
    obtain ⟨Q, y⟩ := q
    dsimp only at *
    have ht := Nat.div_add_mod (nth Q (o + j) + x * nth B j + y) 10000
    generalize (nth Q (o + j) + x * nth B j + y) % 10000 = r at *
    generalize (nth Q (o + j) + x * nth B j + y) / 10000 = c at *
    generalize valB 10000 (Q.set (o + j) r) = V at *
    generalize valB 10000 Q = VQ at *
    generalize valB 10000 M = VM at *
    generalize valB 10000 (B.take j) = VB at *
    generalize nth B j = bj at *
    generalize nth Q (o + j) = qj at *
    rw [← Nat.add_assoc, Nat.pow_succ]
    have e : (10000 : Nat) ^ (o + j) = 10000 ^ o * 10000 ^ j := Nat.pow_add _ _ _
    rw [e] at hs ih ⊢
    generalize (10000 : Nat) ^ o = po at *
    generalize (10000 : Nat) ^ j = pj at *
    have h1 : po * pj * (10000 * c + r) = po * pj * (qj + x * bj + y) := by rw [ht]
    clear ht e hl hj ho hx hB hM
    grind

/-- Behind the places that were written there are zeros. -/
theorem mulRow_high4 {x o : Nat} {B M : List Nat} (j k : Nat) (hk : o + j ≤ k) : nth (mulRow4 x o B M j).1 k = nth M k := by
  induction j with
  | zero => rfl
  | succ j ih => rw [mulRow_succ4]; rw [nth_set_ne (by omega)]; exact ih (by omega)
theorem mulSt_val4 {A B M : List Nat} (hA : Lim4 A) (hB : Lim4 B) (hM : Lim4 M) (hz : ∀ k, nth M k = 0) (hl : M.length = A.length + B.length) (h0 : valB 10000 M = 0) (i : Nat) (hi : i ≤ A.length) :
    valB 10000 (mulSt4 A B M i) = valB 10000 (A.take i) * valB 10000 B ∧ (∀ k, i + B.length ≤ k → nth (mulSt4 A B M i) k = 0) := by
  induction i with
  | zero => exact ⟨by simp [mulSt4, valB, h0], fun k _ => hz k⟩
  | succ i ih =>
    obtain ⟨ih1, ih2⟩ := ih (by omega)
    have hok := mulSt_ok4 hA hB hM i
    have hr := mulRow_val4 (x := nth A i) (o := i) (B := B) (M := mulSt4 A B M i) (by rw [hok.2]; omega) B.length (Nat.le_refl _) hok.1 hB (hA.nth i)
    have hro := mulRow_ok4 (x := nth A i) (o := i) (hA.nth i) hB hok.1 B.length
    have hh := mulRow_high4 (x := nth A i) (o := i) (B := B) (M := mulSt4 A B M i) B.length (i + B.length) (Nat.le_refl _)
    have hh2 := fun k hk => mulRow_high4 (x := nth A i) (o := i) (B := B) (M := mulSt4 A B M i) B.length k hk
    rw [ih2 _ (Nat.le_refl _)] at hh
    rw [mulSt_succ4, valB_take_succ _ _ _ (by omega)]
    have hs := valB_set 10000 (mulRow4 (nth A i) i B (mulSt4 A B M i) B.length).1 (i + B.length) (mulRow4 (nth A i) i B (mulSt4 A B M i) B.length).2 (by rw [hro.2.2, hok.2]; omega)
    refine ⟨?_, fun k hk => ?_⟩
    · rw [hh] at hs
      rw [List.take_of_length_le (Nat.le_refl _)] at hr
      generalize valB 10000 ((mulRow4 (nth A i) i B (mulSt4 A B M i) B.length).1.set (i + B.length) (mulRow4 (nth A i) i B (mulSt4 A B M i) B.length).2) = V at *
      generalize valB 10000 (mulRow4 (nth A i) i B (mulSt4 A B M i) B.length).1 = V1 at *
      generalize 10000 ^ (i + B.length) * (mulRow4 (nth A i) i B (mulSt4 A B M i) B.length).2 = V2 at *
      rw [Nat.mul_zero, Nat.add_zero] at hs
      rw [hs, hr, ih1, Nat.add_mul, Nat.mul_assoc]
    · rw [nth_set_ne (by omega), hh2 k (by omega)]
      exact ih2 k (by omega)
/-- The product of two rows. -/
theorem mul_val4 {A B : List Nat} (hA : Lim4 A) (hB : Lim4 B) : valB 10000 (mulSt4 A B (List.replicate (A.length + B.length) 0) A.length) = valB 10000 A * valB 10000 B := by
  have := (mulSt_val4 (M := List.replicate (A.length + B.length) 0) hA hB (fun d hd => by have := (List.mem_replicate.1 hd).2; omega) (nth_zeros _) (by simp) (valB_zeros _ _) A.length (Nat.le_refl _)).1
  rwa [List.take_of_length_le (Nat.le_refl _)] at this

end Go.Proofs.YtbfbijokhlkekaaDoor

/- The reference's 'mul'. -/
namespace Go.Proofs.YtbfbijokhlkekaaDoor
open Go.RowKit

set_option maxHeartbeats 1600000 in
theorem rmul_walk (A A' : Option Addr) (c c' : Nat) (L M : List Nat) (w : World) (hl : L.length ≤ 1000000) (hml : M.length ≤ 1000000)
    (hL : Lim4 L) (hM : Lim4 M) (hR : Row .i64 w w.heap.size A c L) (hR' : Row .i64 w w.heap.size A' c' M) :
    Calls Tryd.prog 58 #[.slice A L.length c, .slice A' M.length c'] w fun e w' =>
      e = .returned (.slice (some ⟨w.heap.size, 0, none⟩) (trimN (mulSt4 L M (List.replicate (L.length + M.length) 0) L.length) (L.length + M.length)) (L.length + M.length)) ∧
        Blk .i64 3 w' w.heap.size (mulSt4 L M (List.replicate (L.length + M.length) 0) L.length) ∧ Below w.heap.size w w' := by
  obtain ⟨i0, hi, hz0, hz1, hz2⟩ := info_parts info3
  have hZ : Lim4 (List.replicate (L.length + M.length) 0) := fun d hd => by have := (List.mem_replicate.1 hd).2; omega
  have hZl : (List.replicate (L.length + M.length) 0).length = L.length + M.length := by simp
  generalize hz : List.replicate (L.length + M.length) 0 = Z at *
  generalize hl' : L.length = l at *
  generalize hm' : M.length = m at *
  have HL := Lib.hid hl'
  have HM := Lib.hid hm'
  have HZ := Lib.hid hz
  have HZL := Lib.hid hZl
  clear hl' hm' hz hZl
  go_enter Tryd.func58, Tryd.ntmps58
  go_wp2_with (first
    | (refine wpList_make_zeros _ rfl (.tmp 14) (.tmp 14) 29 rfl 3 .i64 i0 8 Tryd.underlying29 hi hz0 hz1 hz2 .i64 .i64 _ _ (l + m) rfl rfl (by omega) (by omega) (by omega) (by omega) ?_; intro w1 hb1 hB1 hs1)
    | fail)
  have hb1' := hb1.out
  rw [HZ.out] at hb1'
  have hg := hb1'.lt
  clear hs1 hb1
  go_loopw [6] (fun iv wr => ∃ i : Nat, i ≤ l ∧ iv = .int .i64 i ∧ Blk .i64 3 wr w.heap.size (mulSt4 L M Z i) ∧ w1.grownBy wr (some w.heap.size)) (fun iv _ => l - (intOf iv).toNat)
  case atStart => exact ⟨0, Nat.zero_le _, rfl, hb1', grown_refl _ _⟩
  case round =>
    obtain ⟨i, hk, rfl, hb, hgr⟩ := hrel
    obtain ⟨h1, h2⟩ := mulSt_ok4 hL hM hZ i
    have HS := Lib.hid (mulSt_succ4 L M Z i)
    have h3 : (mulSt4 L M Z i).length = l + m := by rw [h2, HZL.out]
    clear h2
    generalize hs : mulSt4 L M Z i = S at *
    have HK := Lib.hid hs
    have H3 := Lib.hid h3
    clear hs h3
    by_cases hlt : i < l
    · obtain ⟨b, o, rfl, hbg, hcell⟩ := hR.spot (by rw [HL.out]; omega)
      have hx := hL.nth i
      have hcell2 := hcell.below hB1 hbg
      generalize hxx : nth L i = x at *
      have HX := Lib.hid hxx
      clear hcell hxx
      go_wp2
      have hbS := hb
      go_loopw [7, 8] (fun cv jv wq => ∃ j : Nat, j ≤ m ∧ jv = .int .i64 j ∧ cv = .int .i64 (mulRow4 x i M S j).2 ∧ Blk .i64 3 wq w.heap.size (mulRow4 x i M S j).1 ∧ w1.grownBy wq (some w.heap.size)) (fun _ jv _ => m - (intOf jv).toNat)
      case atStart => exact ⟨0, Nat.zero_le _, rfl, rfl, hbS, hgr⟩
      case round =>
        obtain ⟨j, hj, rfl, rfl, hbq, hgq⟩ := hrel
        obtain ⟨g1, g2, g3⟩ := mulRow_ok4 (o := i) hx hM h1 j
        have HS' := Lib.hid (mulRow_succ4 x i M S j)
        generalize hq : mulRow4 x i M S j = q at *
        have HQ := Lib.hid hq
        clear hq
        obtain ⟨Q, y⟩ := q
        dsimp only at *
        rw [H3.out] at g3
        have G3 := Lib.hid g3
        clear g3
        by_cases hjt : j < m
        · obtain ⟨b', o', rfl, hbg', hcell'⟩ := hR'.spot (by rw [HM.out]; omega)
          have hcy := ((hcell'.below hB1 hbg').grown hgq (by omega) (by intro e; injection e; omega)) j (by rw [HM.out]; exact hjt)
          have hcx := (hcell2.grown hgq (by omega) (by intro e; injection e; omega)) i (by rw [HL.out]; exact hlt)
          rw [HX.out] at hcx
          have hc := hbq.cell (i + j) (by rw [G3.out]; omega)
          have hfr := hbq.frozen (i + j)
          have b1 := g1.nth (i + j)
          have b2 := hM.nth j
          have b4 := mul_lt_limI4 hx b2
          have b5 := mul_nonnegI4 x (nth M j)
          clear hcell' hcell2
          go_wp2
          go_quiet (fail)
          go_wp2
          go_roundw
          case rel =>
            have E := HS'.out
            have e1 := (hbq.drewN nq).setI (i + j) (v := ((nth Q (i + j) : Int) + (x : Int) * (nth M j : Int) + (y : Int)) % 10000) (x := (nth Q (i + j) + x * nth M j + y) % 10000) (by simp)
            exact ⟨j + 1, by omega, by go_num, by rw [E]; simp, by rw [E]; exact e1, grown_set (grown_drewN hgq _) _ _⟩
          case measure => simp [intOf]; omega
        · obtain rfl : j = m := by omega
          have hc := hbq.cell (i + j) (by rw [G3.out]; omega)
          have hfr := hbq.frozen (i + j)
          go_wp2
          go_roundw
          case rel =>
            have E := HS.out
            rw [HM.out, HQ.out] at E
            exact ⟨i + 1, by omega, by go_num, by rw [E]; exact hbq.set_ _ _, grown_set hgq _ _⟩
          case measure => simp [intOf]; omega
    · obtain rfl : i = l := by omega
      have hT := rtrim_any (some ⟨w.heap.size, 0, none⟩) (i + m) S wr wr.heap.size (by rw [H3.out]; omega) (Row.ofBlk hb hb.lt (by rw [H3.out]; exact Nat.le_refl _))
      rw [H3.out] at hT
      have hB : Below w.heap.size w wr := grown_below hB1 hgr (Nat.le_refl _) hB1.size
      have hb9 := Lib.hid hb
      have HT := Lib.hid hT
      clear hT hb
      go_wp2_with fail
      refine HT.out.mono ?_
      rintro e w4 ⟨rfl, rfl⟩
      go_wp2_with fail
      go_ret
      have hk' := HK.out
      rw [hk']
      exact ⟨rfl, hb9.out, hB⟩

abbrev val4 (L : List Nat) : Nat := valB 10000 L
/-- The integer of the reference with a sign and limbs. -/
def zR (neg : Bool) (L : List Nat) : Int := if neg then -(val4 L : Int) else (val4 L : Int)

/-- The limbs that the reference's 'trim' leaves of a block, as they read behind later blocks. -/
theorem trim_pack4 {w : World} {g B c : Nat} {R : List Nat} (hb : Blk .i64 3 w g R) (hR : ∀ d ∈ R, d < 10000) (hg : g < B) (hc : R.length ≤ c) :
    ∃ L, L.length = trimN R R.length ∧ Row .i64 w B (some ⟨g, 0, none⟩) c L ∧ (∀ d ∈ L, d < 10000) ∧ (0 < L.length → nth L (L.length - 1) ≠ 0) ∧ val4 L = val4 R := by
  have htl := trimN_le R R.length
  have el : (R.take (trimN R R.length)).length = trimN R R.length := by rw [List.length_take]; omega
  refine ⟨R.take (trimN R R.length), el, (Row.ofBlk hb hg hc).take _, fun d hd => hR d (List.mem_of_mem_take hd), ?_, ?_⟩
  · rw [el]; intro h; rw [nth_take (by omega)]; exact trimN_top _ _ h
  · rw [val4, trimN_val _ _ _ (Nat.le_refl _), List.take_of_length_le (Nat.le_refl _)]
/-- Trimmed limbs stay as they are. -/
theorem trimN_same {L : List Nat} (h : 0 < L.length → nth L (L.length - 1) ≠ 0) : trimN L L.length = L.length := by
  rcases hl : L.length with _ | n
  · rfl
  · rw [trimN, if_neg]
    have := h (by omega)
    rw [hl] at this
    exact this

theorem rmul2 (A A' : Option Addr) (c c' : Nat) (L M : List Nat) (w : World) (hl : L.length ≤ 500000) (hml : M.length ≤ 500000)
    (hL : ∀ d ∈ L, d < 10000) (hM : ∀ d ∈ M, d < 10000) (hR : Row .i64 w w.heap.size A c L) (hR' : Row .i64 w w.heap.size A' c' M) :
    Calls Tryd.prog 58 #[.slice A L.length c, .slice A' M.length c'] w fun e w' => ∃ g c R, e = .returned (.slice (some ⟨g, 0, none⟩) R.length c) ∧
      Row .i64 w' w'.heap.size (some ⟨g, 0, none⟩) c R ∧ (∀ d ∈ R, d < 10000) ∧ (0 < R.length → nth R (R.length - 1) ≠ 0) ∧ val4 R = val4 L * val4 M ∧ R.length ≤ L.length + M.length ∧ Below w.heap.size w w' ∧ w.heap.size ≤ g := by
  refine (rmul_walk A A' c c' L M w (by omega) (by omega) hL hM hR hR').mono ?_
  rintro e w' ⟨rfl, hb, hbw⟩
  have hz : Lim4 (List.replicate (L.length + M.length) 0) := fun d hd => by have := (List.mem_replicate.1 hd).2; omega
  have hok := mulSt_ok4 hL hM hz L.length
  have hv := mul_val4 hL hM
  have hlen : (mulSt4 L M (List.replicate (L.length + M.length) 0) L.length).length = L.length + M.length := by rw [hok.2]; simp
  obtain ⟨R, h1, h2, h3, h3', h4⟩ := trim_pack4 (c := L.length + M.length) hb hok.1 hb.lt (by omega)
  rw [hlen] at h1
  have htl := trimN_le (mulSt4 L M (List.replicate (L.length + M.length) 0) L.length) (L.length + M.length)
  exact ⟨_, _, R, by rw [h1], h2, h3, h3', by rw [h4]; exact hv, by omega, hbw, Nat.le_refl _⟩

theorem zR_mul (n m : Bool) {L M R : List Nat} (h : val4 R = val4 L * val4 M) (h0 : R.length = 0 → val4 R = 0) : zR ((n != m) && decide (0 < R.length)) R = zR n L * zR m M := by
  have hc : ((val4 R : Nat) : Int) = (val4 L : Int) * (val4 M : Int) := by rw [h]; simp
  unfold zR
  generalize (val4 L : Int) = x at *
  generalize (val4 M : Int) = y at *
  rcases Nat.eq_zero_or_pos R.length with h1 | h1
  · have h2 := h0 h1
    rw [h2] at hc ⊢
    have e : (decide (0 < R.length)) = false := by rw [decide_eq_false_iff_not]; omega
    rw [e, Bool.and_false]
    cases n <;> cases m <;> simp <;> grind
  · have e : (decide (0 < R.length)) = true := by rw [decide_eq_true_iff]; omega
    rw [e, Bool.and_true, hc]
    cases n <;> cases m <;> simp <;> grind
theorem val4_nil {L : List Nat} (h : L.length = 0) : val4 L = 0 := by rw [List.eq_nil_of_length_eq_zero h]; rfl
end Go.Proofs.YtbfbijokhlkekaaDoor

/- The reference's 'Mul'. -/
namespace Go.Proofs.YtbfbijokhlkekaaDoor
open Go.RowKit

theorem rsigned_trim (neg : Bool) (A : Option Addr) (c : Nat) (L : List Nat) (w : World) {n : Nat} (hl : L.length ≤ n) (ht : 0 < L.length → nth L (L.length - 1) ≠ 0) (hR : Row .i64 w w.heap.size A c L) (hn : n ≤ 4000000 := by omega) :
    Calls Tryd.prog 44 #[.bool neg, .slice A L.length c] w fun e w' => e = .returned (.agg #[.bool (neg && decide (0 < L.length)), .slice A L.length c]) ∧ Below w.heap.size w w' := by
  have := rsigned_any neg A c L w (by omega) hR
  rwa [trimN_same ht] at this

set_option maxRecDepth 20000 in
set_option maxHeartbeats 3200000 in
theorem rmulI_any (n m : Bool) (A A' : Option Addr) (c c' : Nat) (L M : List Nat) (w : World) (hl : L.length ≤ 500000) (hml : M.length ≤ 500000)
    (hL : RefR w w.heap.size n A c L) (hM : RefR w w.heap.size m A' c' M) :
    Calls Tryd.prog 33 #[.agg #[.bool n, .slice A L.length c], .agg #[.bool m, .slice A' M.length c']] w fun e w' => ∃ k A c R, e = .returned (.agg #[.bool k, .slice A R.length c]) ∧
      RefR w' w'.heap.size k A c R ∧ zR k R = zR n L * zR m M ∧ R.length ≤ L.length + M.length ∧ Below w.heap.size w w' := by
  have hM2 := fun W h1 h2 => rmul2 A A' c c' L M W hl hml hL.lim hM.lim h1 h2
  have HM2 := Lib.hid hM2
  clear hM2
  generalize hl' : L.length = l at *
  generalize hm' : M.length = l2 at *
  have HLL := Lib.hid hl'
  have HML := Lib.hid hm'
  clear hl' hm'
  go_enter Tryd.func33, Tryd.ntmps33
  go_wp2
  have hne1 : ¬ w.heap.size = w.heap.size + 1 + 1 := by omega
  have hne2 : ¬ w.heap.size + 1 + 1 = w.heap.size := by omega
  go_region_held3 (fun w' => w'.cell? ⟨w.heap.size, 0, none⟩ = some (.bool n) ∧ w'.cell? ⟨w.heap.size, 1, none⟩ = some (.slice A l c) ∧
      w'.cell? ⟨w.heap.size + 1, 0, none⟩ = some (.bool m) ∧ w'.cell? ⟨w.heap.size + 1, 1, none⟩ = some (.slice A' l2 c')) (go_keep)
    (first
      | (go_at_call 58; refine (HM2.out _ (hL.row.up (below_drew (below_a3 _ _ _ _))) (hM.row.up (below_drew (below_a3 _ _ _ _)))).mono ?_; rintro e w1 ⟨g, c1, R, rfl, hr1, hlim1, htop1, hv1, hl1, hb1, _⟩; have HB1 := Lib.hid (three (below_undrew hb1)).2.2.2.2.2.2.2.2.2; have X := three (below_undrew hb1); have hq1 := X.1; have hq2 := X.2.1; have hq3 := X.2.2.1; have hq4 := X.2.2.2.1; have hq5 := X.2.2.2.2.1; have hq6 := X.2.2.2.2.2.1; have hq7 := X.2.2.2.2.2.2.1; have hq8 := X.2.2.2.2.2.2.2.1; have hq9 := X.2.2.2.2.2.2.2.2.1; clear X hb1)
      | (go_at_call 44; refine (rsigned_trim _ _ _ R _ hl1 htop1 hr1).mono ?_; rintro e w2 ⟨rfl, hb2⟩; have HB2 := Lib.hid (below_then HB1.out hb2 hq9); have HR2 := Lib.hid (hr1.below hb2); have hs2 := hb2.size; clear hq1 hq2 hq3 hq4 hq5 hq6 hq7 hq8 hr1 hb2; have X := three' HB2.out; have hq1 := X.1; have hq2 := X.2.1; have hq3 := X.2.2.1; have hq4 := X.2.2.2.1; have hq5 := X.2.2.2.2.1; have hq6 := X.2.2.2.2.2.1; have hq7 := X.2.2.2.2.2.2.1; have hq8 := X.2.2.2.2.2.2.2.1; clear X))
  all_goals
    go_wp2
    have hbw : Below w.heap.size w w2 := (below_a3 w _ _ _).trans (Below.less HB2.out (by omega))
    refine bodyPost_ret (v := .agg #[.bool (!(n == m) && decide (0 < R.length)), .slice (some ⟨g, 0, none⟩) R.length c1]) (by simp [results, Tryd.results33, go_sem, hq5, hq6]) rfl
      ⟨_, _, _, R, rfl, ?_, zR_mul n m hv1 val4_nil, hl1, (hbw.setCell (by simp; omega) _).setCell (by simp; omega) _⟩
    rw [setCell_size, setCell_size]
    refine ⟨(HR2.out.more hs2).box3 HB2.out (fun _ => by simp) (fun _ => by simp) _ _, hlim1, htop1, fun hk hR => ?_⟩
    rw [hR] at hk
    simp at hk
end Go.Proofs.YtbfbijokhlkekaaDoor

/- IntegerProducts: for every two texts the statement about Mul returns true. -/
namespace Go.Proofs.YtbfbijokhlkekaaDoor
open Go.RowKit

theorem txt_same {w w' : World} {B B' : Nat} {n m : Bool} {A A' : Option Addr} {c c' : Nat} {L M : List Nat} (hL : IntR w B n A c L) (hM : RefR w' B' m A' c' M) (h : zI n L = zR m M) : decI n (val9 L) = decI m (val4 M) := by
  have h1 : n = true → 0 < val9 L := fun h => Nat.pos_of_ne_zero (canon_pos hL.canon (List.length_pos_iff.2 (hL.sgn h)))
  have h2 : m = true → 0 < val4 M := fun h => Nat.pos_of_ne_zero (ref_pos hM (List.length_pos_iff.2 (hM.sgn h)))
  have h3 : n = m ∧ val9 L = val4 M := by
    unfold zI zR at h
    cases n <;> cases m <;> simp at h h1 h2 ⊢ <;> omega
  rw [h3.1, h3.2]
theorem same_true (n m : Bool) (A A' : Option Addr) (c c' : Nat) (L M : List Nat) (w : World) (hl : L.length ≤ 100000) (hml : M.length ≤ 1000000)
    (hL : IntR w w.heap.size n A c L) (hM : RefR w w.heap.size m A' c' M) (hz : zI n L = zR m M) (ht : Tab w.heap.size w) :
    Calls Tryd.prog 17 #[.agg #[.bool n, .slice A L.length c], .agg #[.bool m, .slice A' M.length c']] w fun e w' => e = .returned (.bool true) ∧ Below w.heap.size w w' := by
  have h := same_any n m A A' c c' L M w hl hml hL hM ht
  rw [txt_same hL hM hz, show (decI m (val4 M) == decI m (valB 10000 M)) = true by simp] at h
  exact h
/-- The integer that a good text stands for. -/
def textZ (l : List UInt8) : Int := if negOf l then -(numOf (restOf l) : Int) else (numOf (restOf l) : Int)
theorem textZ_I {l : List UInt8} {k : Bool} {L : List Nat} (h1 : k = negOf l) (h2 : val9 L = numOf (restOf l)) : zI k L = textZ l := by unfold zI textZ; rw [h1, h2]
theorem textZ_R {l : List UInt8} {k : Bool} {L : List Nat} (h1 : k = negOf l) (h2 : valB 10000 L = numOf (restOf l)) : zR k L = textZ l := by unfold zR textZ val4; rw [h1, h2]

set_option maxRecDepth 20000 in
set_option maxHeartbeats 12800000 in
theorem law_products (s t : ByteArray) (w : World) (htab : Tab w.heap.size w) :
    Calls Tryd.prog 6 #[.string s, .string t] w fun e w' => e = .returned (.bool true) ∧ Below w.heap.size w w' := by
  have HT := Lib.hid htab
  have HBO := Lib.hid (fun W => both_any s t W)
  clear htab
  go_enter Tryd.func6, Tryd.ntmps6
  go_wp2_with fail
  refine (awake_any w HT.out).mono ?_
  rintro e w1 ⟨rfl, hb1⟩
  go_wp2_with fail
  refine (HBO.out _).mono ?_
  rintro e w2 ⟨k1, A1, c1, L1, k2, A2, c2, L2, k3, A3, c3, L3, k4, A4, c4, L4, ok, rfl, I1, I2, M1, M2, hl1, hl2, hl3, hl4, hok, hb2⟩
  have hb12 := hb1.trans (Below.less hb2 hb1.size)
  clear hb1 hb2
  have F := four_boxes w2 (.bool k1) (.slice A1 (List.length L1) c1) (.bool k2) (.slice A2 (List.length L2) c2) (.bool k3) (.slice A3 (List.length L3) c3) (.bool k4) (.slice A4 (List.length L4) c4) 25 25 31 31
  cases ok
  · have HB12 := Lib.hid hb12
    clear hb12
    go_wp2_with fail
    go_ret
    exact ⟨rfl, HB12.out.trans (Below.less F.2.2.2.2.2 HB12.out.size)⟩
  · obtain ⟨e1, e2, q1, q2, q3, q4, q5, q6, q7, q8⟩ := hok rfl
    have HZ1 := Lib.hid (textZ_I q1 q2)
    have HZ2 := Lib.hid (textZ_I q3 q4)
    have HZ3 := Lib.hid (textZ_R q5 q6)
    have HZ4 := Lib.hid (textZ_R q7 q8)
    clear hok e1 e2 q1 q2 q3 q4 q5 q6 q7 q8
    go_wp2_with fail
    change Code.wp Tryd.prog _ _ _ ((((w2.alloc (.cells #[.bool k1, .slice A1 (List.length L1) c1] 25)).alloc (.cells #[.bool k2, .slice A2 (List.length L2) c2] 25)).alloc (.cells #[.bool k3, .slice A3 (List.length L3) c3] 31)).alloc (.cells #[.bool k4, .slice A4 (List.length L4) c4] 31))
    generalize (((w2.alloc (.cells #[.bool k1, .slice A1 (List.length L1) c1] 25)).alloc (.cells #[.bool k2, .slice A2 (List.length L2) c2] 25)).alloc (.cells #[.bool k3, .slice A3 (List.length L3) c3] 31)).alloc (.cells #[.bool k4, .slice A4 (List.length L4) c4] 31) = W at *
    obtain ⟨b0, b1, b2, b3, hsz, hbw⟩ := F
    have HI1 := Lib.hid (I1.up hbw)
    have HI2 := Lib.hid (I2.up hbw)
    have HM1 := Lib.hid (M1.up hbw)
    have HM2 := Lib.hid (M2.up hbw)
    have hWw := hb12.trans (Below.less hbw hb12.size)
    have HWW := Lib.hid hWw
    have HTW := Lib.hid (tab_up HT.out hWw)
    have hy0 := b0.c0
    have hy1 := b0.c1
    have hy2 := b1.c0
    have hy3 := b1.c1
    have hy4 := b2.c0
    have hy5 := b2.c1
    have hy6 := b3.c0
    have hy7 := b3.c1
    have hlt0 : w2.heap.size < W.heap.size := by omega
    have hlt1 : w2.heap.size + 1 < W.heap.size := by omega
    have hlt2 : w2.heap.size + 1 + 1 < W.heap.size := by omega
    have hlt3 : w2.heap.size + 1 + 1 + 1 < W.heap.size := by omega
    have HC := Lib.hid (below_drew (Below.refl W.heap.size W))
    clear b0 b1 b2 b3 hsz hbw I1 I2 M1 M2 hb12 hWw
    have hf0 := hy0
    have hf1 := hy1
    have hf2 := hy2
    have hf3 := hy3
    have hf4 := hy4
    have hf5 := hy5
    have hf6 := hy6
    have hf7 := hy7
    go_region_held3 (fun w' => w'.cell? ⟨w2.heap.size, 0, none⟩ = some (.bool k1) ∧ w'.cell? ⟨w2.heap.size, 1, none⟩ = some (.slice A1 (List.length L1) c1) ∧
        w'.cell? ⟨w2.heap.size + 1, 0, none⟩ = some (.bool k2) ∧ w'.cell? ⟨w2.heap.size + 1, 1, none⟩ = some (.slice A2 (List.length L2) c2) ∧
        w'.cell? ⟨w2.heap.size + 1 + 1, 0, none⟩ = some (.bool k3) ∧ w'.cell? ⟨w2.heap.size + 1 + 1, 1, none⟩ = some (.slice A3 (List.length L3) c3) ∧
        w'.cell? ⟨w2.heap.size + 1 + 1 + 1, 0, none⟩ = some (.bool k4) ∧ w'.cell? ⟨w2.heap.size + 1 + 1 + 1, 1, none⟩ = some (.slice A4 (List.length L4) c4)) (go_keep)
      (first
        | (go_at_call 32; (with_reducible refine (mul_any k1 k2 A1 A2 c1 c2 L1 L2 _ (by omega) (by omega) (HI1.out.up HC.out) (HI2.out.up HC.out)).mono ?_); rintro e w4 ⟨kx, Ax, cx, X, rfl, hix, hzx, hlx, hb4⟩; have HX := Lib.hid hix; have HZX := Lib.hid hzx; clear hix hzx; (try (have HY9 := Lib.hid (RefR.up HY.out hb4); clear HY; have HY := HY9; clear HY9)); have HC9 := Lib.hid (below_then HC.out hb4 HC.out.size); clear HC hf0 hf1 hf2 hf3 hf4 hf5 hf6 hf7; have HC := HC9; clear HC9; have hf0 := (below_atB (i := 0) HC.out hlt0).trans hy0; have hf1 := (below_atB (i := 1) HC.out hlt0).trans hy1; have hf2 := (below_atB (i := 0) HC.out hlt1).trans hy2; have hf3 := (below_atB (i := 1) HC.out hlt1).trans hy3; have hf4 := (below_atB (i := 0) HC.out hlt2).trans hy4; have hf5 := (below_atB (i := 1) HC.out hlt2).trans hy5; have hf6 := (below_atB (i := 0) HC.out hlt3).trans hy6; have hf7 := (below_atB (i := 1) HC.out hlt3).trans hy7; clear hb4)
        | (go_at_call 33; (with_reducible refine (rmulI_any k3 k4 A3 A4 c3 c4 L3 L4 _ (by omega) (by omega) (HM1.out.up HC.out) (HM2.out.up HC.out)).mono ?_); rintro e w4 ⟨ky, Ay, cy, Y, rfl, hiy, hzy, hly, hb4⟩; have HY := Lib.hid hiy; have HZY := Lib.hid hzy; clear hiy hzy; (try (have HX9 := Lib.hid (IntR.up HX.out hb4); clear HX; have HX := HX9; clear HX9)); have HC9 := Lib.hid (below_then HC.out hb4 HC.out.size); clear HC hf0 hf1 hf2 hf3 hf4 hf5 hf6 hf7; have HC := HC9; clear HC9; have hf0 := (below_atB (i := 0) HC.out hlt0).trans hy0; have hf1 := (below_atB (i := 1) HC.out hlt0).trans hy1; have hf2 := (below_atB (i := 0) HC.out hlt1).trans hy2; have hf3 := (below_atB (i := 1) HC.out hlt1).trans hy3; have hf4 := (below_atB (i := 0) HC.out hlt2).trans hy4; have hf5 := (below_atB (i := 1) HC.out hlt2).trans hy5; have hf6 := (below_atB (i := 0) HC.out hlt3).trans hy6; have hf7 := (below_atB (i := 1) HC.out hlt3).trans hy7; clear hb4)
        | (go_at_call 17; (first | (with_reducible refine (same_true kx ky Ax Ay cx cy X Y _ (by omega) (by omega) HX.out HY.out (by rw [HZX.out, HZY.out, HZ1.out, HZ2.out, HZ3.out, HZ4.out]) (tab_up HTW.out HC.out)).mono ?_) | (with_reducible refine (same_true k1 k3 A1 A3 c1 c3 L1 L3 _ (by omega) (by omega) (HI1.out.up HC.out) (HM1.out.up HC.out) (by rw [HZ1.out, HZ3.out]) (tab_up HTW.out HC.out)).mono ?_) | (with_reducible refine (same_true k2 k4 A2 A4 c2 c4 L2 L4 _ (by omega) (by omega) (HI2.out.up HC.out) (HM2.out.up HC.out) (by rw [HZ2.out, HZ4.out]) (tab_up HTW.out HC.out)).mono ?_)); rintro e w4 ⟨rfl, hb4⟩; have HC9 := Lib.hid (below_then HC.out hb4 HC.out.size); clear HC hf0 hf1 hf2 hf3 hf4 hf5 hf6 hf7; have HC := HC9; clear HC9; have hf0 := (below_atB (i := 0) HC.out hlt0).trans hy0; have hf1 := (below_atB (i := 1) HC.out hlt0).trans hy1; have hf2 := (below_atB (i := 0) HC.out hlt1).trans hy2; have hf3 := (below_atB (i := 1) HC.out hlt1).trans hy3; have hf4 := (below_atB (i := 0) HC.out hlt2).trans hy4; have hf5 := (below_atB (i := 1) HC.out hlt2).trans hy5; have hf6 := (below_atB (i := 0) HC.out hlt3).trans hy6; have hf7 := (below_atB (i := 1) HC.out hlt3).trans hy7; clear hb4))
    all_goals
      go_wp2
      go_ret
      exact ⟨rfl, HWW.out.trans (Below.less HC.out HWW.out.size)⟩
end Go.Proofs.YtbfbijokhlkekaaDoor
