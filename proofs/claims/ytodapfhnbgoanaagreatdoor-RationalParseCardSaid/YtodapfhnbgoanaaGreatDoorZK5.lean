/- Contracts of the functions that the statements reach, part 5: what was proved of each, callees first. -/
import Derived.Deep.RegionHeld3
import Derived.Deep.CutRange
import Derived.Laws.AppendOwnNone
import Derived.OwnWalk
import Derived.Test.YtodapfhnbgoanaaGreatDoorZK4
namespace Go.Proofs.YtodapfhnbgoanaaGreatDoor
open Go.RowKit
def DivPost (L M : List Nat) (w : World) (e : Ending) (w' : World) : Prop := ∃ A1 c1 Q A2 c2 R, e = .returned (.tuple #[.slice A1 (List.length Q) c1, .slice A2 (List.length R) c2]) ∧
 Row .u32 w' w'.heap.size A1 c1 Q ∧ Row .u32 w' w'.heap.size A2 c2 R ∧ Canon Q ∧ Canon R ∧ val9 Q * val9 M + val9 R = val9 L ∧ val9 R < val9 M ∧ List.length Q ≤ L.length ∧ List.length R ≤ L.length + 1 ∧ Below w.heap.size w w'
theorem cmpZ_lt {x y : Nat} (h : x < y) : decide (cmpZ x y < 0) = true := by unfold cmpZ; simp [h]
theorem cmpZ_ge {x y : Nat} (h : y ≤ x) : decide (cmpZ x y < 0) = false := by unfold cmpZ; rw [if_neg (by omega)]; split <;> simp
theorem canon_nil : Canon ([] : List Nat) := ⟨fun _ h => absurd h (List.not_mem_nil), fun h => absurd h (Nat.lt_irrefl 0)⟩
set_option maxRecDepth 20000 in
set_option maxHeartbeats 3200000 in
theorem divide_any (A A' : Option Addr) (c c' : Nat) (L M : List Nat) (w : World) (hl : L.length ≤ 400000) (hm : M.length ≤ 400000) (hm0 : 0 < M.length) (hL : Canon L) (hM : Canon M)
  (hR : Row .u32 w w.heap.size A c L) (hR' : Row .u32 w w.heap.size A' c' M) :
  Calls Tryz.prog 78 #[.slice A L.length c, .slice A' M.length c'] w (DivPost L M w) := by
 have hcmp := compare_row A A' c c' L M w (by omega) (by omega) hR hR' hL hM
 rcases Nat.lt_or_ge (val9 L) (val9 M) with hlt | hge
 ·have hd := cmpZ_lt hlt
  have hfin : ∀ W g, Blk .u32 86 W g L → Below w.heap.size w W → DivPost L M w (.returned (.tuple #[.slice none 0 0, .slice (some ⟨g, 0, none⟩) L.length L.length])) W := fun W g hb hbw =>
   ⟨none, 0, [], _, _, L, rfl, Row.nil _ _ _ _ _, Row.ofBlk hb hb.lt (Nat.le_refl _), canon_nil, hL, by simp [valB], hlt, by simp, by omega, hbw⟩
  have hCp := fun W h => copied_any A c L W (by omega) h
  have HFIN := Lib.hid hfin
  have HCMP := Lib.hid hcmp
  have HCP := Lib.hid hCp
  clear hfin hcmp hCp hlt
  generalize cmpZ (val9 L) (val9 M) = cc at *
  generalize L.length = l at *
  generalize M.length = m at *
  go_enter Tryz.func78, Tryz.ntmps78
  go_wp2_with fail
  refine HCMP.out.mono ?_
  rintro e w1 ⟨rfl, nq, rfl⟩
  go_wp2_with fail
  refine (HCP.out _ (hR.drewN nq)).mono ?_
  rintro e w2 ⟨rfl, hb2, hB2⟩
  go_wp2_with fail
  go_ret2
  exact HFIN.out _ _ hb2 (below_undrewN hB2)
 ·have hd := cmpZ_ge hge
  have hln := canon_len hL hM hge
  have HCMP := Lib.hid hcmp
  clear hcmp
  generalize cmpZ (val9 L) (val9 M) = cc at *
  rcases Nat.lt_or_ge M.length 2 with h1 | h2
  ·have hm1 : M.length = 1 := by omega
   obtain ⟨b, o, rfl, hbB, hcs⟩ := hR'.spot (by omega)
   have hc0 := hcs 0 (by omega)
   have hv : val9 M = nth M 0 := by
    have := val_top hm1 (by omega)
    simpa [valB] using this
   have hpos : 0 < nth M 0 := Nat.pos_of_ne_zero (by have := hM.top (by omega); rw [hm1] at this; exact this)
   have hd1 := fun W h => divLimb_any A c (nth M 0) L W (by omega) hL.lim hpos (hM.lim.nth 0) h
   have hfin : ∀ e W, (∃ A1 c1 Q A2 c2 R, e = .returned (.tuple #[.slice A1 (List.length Q) c1, .slice A2 (List.length R) c2]) ∧
     Row .u32 W W.heap.size A1 c1 Q ∧ Row .u32 W W.heap.size A2 c2 R ∧ Canon Q ∧ Canon R ∧ val9 Q * nth M 0 + val9 R = val9 L ∧ val9 R < nth M 0 ∧ List.length Q ≤ L.length ∧ List.length R ≤ 1 ∧ Below w.heap.size w W) → DivPost L M w e W := by
    rintro e W ⟨A1, c1, Q, A2, c2, R, h1, h2, h3, h4, h5, h6, h7, h8, h9, h10⟩
    exact ⟨A1, c1, Q, A2, c2, R, h1, h2, h3, h4, h5, by rw [hv]; exact h6, by rw [hv]; exact h7, h8, by omega, h10⟩
   have HFIN := Lib.hid hfin
   have HD1 := Lib.hid hd1
   have hlc := hR'.len
   clear hfin hd1 hcs hv hge
   have hcm2 := HCMP.out
   clear HCMP
   rw [hm1] at hlc hcm2 ⊢
   have HCMP := Lib.hid hcm2
   clear hcm2
   generalize nth M 0 = v at *
   generalize L.length = l at *
   clear hm1 hln h1
   go_enter Tryz.func78, Tryz.ntmps78
   go_wp2_with fail
   refine HCMP.out.mono ?_
   rintro e w1 ⟨rfl, nq, rfl⟩
   have hc0' : (w.drewN nq).cell? ⟨b, o, none⟩ = some (.int .u32 v) := by simpa using hc0
   go_wp2_with fail
   refine (HD1.out _ (hR.drewN nq)).mono ?_
   rintro e w2 ⟨A1, c1, Q, A2, c2, R, rfl, k1, k2, k3, k4, k5, k6, k7, k8, k9⟩
   have H2 := Lib.hid (HFIN.out _ w2 ⟨A1, c1, Q, A2, c2, R, rfl, k1, k2, k3, k4, k5, k6, k7, k8, below_undrewN k9⟩)
   clear k1 k2 k3 k4 k5 k6 k7 k8 k9
   go_wp2_with fail
   go_ret2
   exact H2.out
  ·obtain ⟨m, hm2⟩ : ∃ m, M.length = m + 2 := ⟨M.length - 2, by omega⟩
   have hdl := fun W h1 h2' => divLong_any A A' c c' m L M W hl hm2 (by omega) hL.lim hM h1 h2'
   have HDL := Lib.hid hdl
   have hne : ((M.length : Int) == 1) = false := by rw [beq_eq_false_iff_ne]; omega
   have hfin : ∀ e W, (∃ A1 c1 Q A2 c2 R, e = .returned (.tuple #[.slice A1 (List.length Q) c1, .slice A2 (List.length R) c2]) ∧
     Row .u32 W W.heap.size A1 c1 Q ∧ Row .u32 W W.heap.size A2 c2 R ∧ Canon Q ∧ Canon R ∧ val9 Q * val9 M + val9 R = val9 L ∧ val9 R < val9 M ∧ List.length Q ≤ L.length ∧ List.length R ≤ L.length + 1 ∧ Below w.heap.size w W) → DivPost L M w e W := fun e W h => h
   have HFIN := Lib.hid hfin
   clear hdl hfin hge hln hm2
   generalize M.length = lm at *
   generalize L.length = l at *
   go_enter Tryz.func78, Tryz.ntmps78
   go_wp2_with fail
   refine HCMP.out.mono ?_
   rintro e w1 ⟨rfl, nq, rfl⟩
   go_wp2_with fail
   refine (HDL.out _ (hR.drewN nq) (hR'.drewN nq)).mono ?_
   rintro e w2 ⟨A1, c1, Q, A2, c2, R, rfl, k1, k2, k3, k4, k5, k6, k7, k8, k9⟩
   have H2 := Lib.hid (HFIN.out _ w2 ⟨A1, c1, Q, A2, c2, R, rfl, k1, k2, k3, k4, k5, k6, k7, k8, below_undrewN k9⟩)
   clear k1 k2 k3 k4 k5 k6 k7 k8 k9
   go_wp2_with fail
   go_ret2
   exact H2.out
theorem eq4d (d : Nat) (s0 s1 s2 s3 t0 t1 t2 t3 : Int) (w : World) :
  (Op.equalIn (d + 1 + 1) 144 (.agg #[.int .i64 s0, .int .i64 s1, .int .i64 s2, .int .i64 s3]) (.agg #[.int .i64 t0, .int .i64 t1, .int .i64 t2, .int .i64 t3])).run Tryz.prog w = .ok (s0 == t0 && s1 == t1 && s2 == t2 && s3 == t3) w := by
 have e : ∀ (a b : Int) (w : World), (Op.equalIn (d + 1) 2 (.int .i64 a) (.int .i64 b)).run Tryz.prog w = .ok (a == b) w := fun a b w => run_equalIn_int w d 2 .i64 .i64 a b Tryz.underlying2
 generalize d + 1 = d' at *
 simp only [Op.equalIn, Sem.run_bind, run_underlying Tryz.underlying144, Result.andThen_ok, Tryz.sizeOf2]
 simp only [Std.Legacy.Range.forIn_eq_forIn_range']
 simp only [Std.Legacy.Range.size, List.range', List.forIn_cons, List.forIn_nil]
 have hp : ∀ (cs : Array Value) (i : Nat) (v : Value) (w : World), cs[i]? = some v → (part 2 cs i).run Tryz.prog w = .ok v w := fun cs i v w h => by
  simp [part, Sem.run_bind, Tryz.isAgg2, h]
 have p0 : ∀ (a b c d : Value) (w : World), (part 2 #[a, b, c, d] 0).run Tryz.prog w = .ok a w := fun _ _ _ _ w => hp _ 0 _ w rfl
 have p1 : ∀ (a b c d : Value) (w : World), (part 2 #[a, b, c, d] 1).run Tryz.prog w = .ok b w := fun _ _ _ _ w => hp _ 1 _ w rfl
 have p2 : ∀ (a b c d : Value) (w : World), (part 2 #[a, b, c, d] 2).run Tryz.prog w = .ok c w := fun _ _ _ _ w => hp _ 2 _ w rfl
 have p3 : ∀ (a b c d : Value) (w : World), (part 2 #[a, b, c, d] 3).run Tryz.prog w = .ok d w := fun _ _ _ _ w => hp _ 3 _ w rfl
 by_cases h0 : s0 = t0
 ·by_cases h1 : s1 = t1
  ·by_cases h2 : s2 = t2
   ·by_cases h3 : s3 = t3
    ·simp [Sem.run_bind, Sem.run_ite, e, p0, p1, p2, p3, h0, h1, h2, h3]
    ·simp [Sem.run_bind, Sem.run_ite, e, p0, p1, p2, p3, h0, h1, h2, h3]
   ·simp [Sem.run_bind, Sem.run_ite, e, p0, p1, p2, h0, h1, h2]
  ·simp [Sem.run_bind, Sem.run_ite, e, p0, p1, h0, h1]
 ·simp [Sem.run_bind, Sem.run_ite, e, p0, h0]
theorem eq4 (s0 s1 s2 s3 t0 t1 t2 t3 : Int) (w : World) :
  (Op.equalIn 10000 144 (.agg #[.int .i64 s0, .int .i64 s1, .int .i64 s2, .int .i64 s3]) (.agg #[.int .i64 t0, .int .i64 t1, .int .i64 t2, .int .i64 t3])).run Tryz.prog w = .ok (s0 == t0 && s1 == t1 && s2 == t2 && s3 == t3) w := eq4d 9998 s0 s1 s2 s3 t0 t1 t2 t3 w
theorem combine2 (A A' : Option Addr) (c c' v : Nat) (p q : Int) (L M : List Nat) (w : World) (hl : L.length ≤ 400000) (hml : M.length ≤ L.length)
  (hp1 : -1000000000 ≤ p) (hp2 : p ≤ 1000000000) (hq1 : -1000000000 ≤ q) (hq2 : q ≤ 1000000000)
  (hL : Lim L) (hM : Lim M) (hv : (v : Int) = p * (val9 L : Int) + q * (val9 M : Int)) (hva : v ≤ val9 L) (hR : Row .u32 w w.heap.size A c L) (hR' : Row .u32 w w.heap.size A' c' M) :
  Calls Tryz.prog 117 #[.slice A L.length c, .slice A' M.length c', .int .i64 p, .int .i64 q] w fun e w' => ∃ A2 c2 R, e = .returned (.slice A2 (List.length R) c2) ∧
   Row .u32 w' w'.heap.size A2 c2 R ∧ Canon R ∧ val9 R = v ∧ R.length ≤ L.length ∧ Below w.heap.size w w' := by
 refine (combine_any A A' c c' p q L M w hl (by omega) hp1 hp2 hq1 hq2 hL hM hR hR').mono ?_
 rintro e w' ⟨rfl, hb, hbw⟩
 obtain ⟨k1, k2, k3, k4, k5⟩ := coSt_ok (q := q) (M := M) hL hM hp1 hp2 hq1 hq2 L.length
 have hval := coSt_end hL hM hp1 hp2 hq1 hq2 hml (by omega) (by omega)
 obtain ⟨R, h1, h2, h3, h4⟩ := trim_pack (c := L.length) hb k1 hb.lt (by rw [k4]; exact Nat.le_refl _)
 rw [k4] at h1
 have htl := trimN_le (coSt p q L M L.length).1 L.length
 exact ⟨_, _, R, by rw [h1], h2, h3, by rw [h4]; omega, by omega, hbw⟩
theorem top3_all {R : List Nat} (hR : Lim R) (j : Nat) (hz : ∀ k, j + 3 ≤ k → nth R k = 0) : val9 R / 1000000000 ^ j = top3 R j := by
 rcases Nat.lt_or_ge R.length j with h | h
 ·have h1 := valB_lt hR
  have h2 : (1000000000 : Nat) ^ R.length ≤ 1000000000 ^ j := Nat.pow_le_pow_right (by omega) (by omega)
  have h3 : top3 R j = 0 := by unfold top3; rw [nth_ge (by omega), nth_ge (by omega), nth_ge (by omega)]
  rw [h3]
  exact Nat.div_eq_of_lt (by unfold val9; omega)
 ·exact top3_val hR j h hz
theorem red_lead {L M : List Nat} {l3 : Nat} (hl : L.length = l3 + 3) (hml : M.length ≤ L.length) (hL : Lim L) (hM : Lim M) (hle : val9 M ≤ val9 L) :
  nth M (l3 + 2) ≤ nth L (l3 + 2) ∧ top3 L l3 / (nth L (l3 + 2) + 1) < 1000000000000000000 ∧ top3 M l3 / (nth L (l3 + 2) + 1) ≤ top3 L l3 / (nth L (l3 + 2) + 1) ∧
  ∃ S, 0 < S ∧ val9 L / S = top3 L l3 / (nth L (l3 + 2) + 1) ∧ val9 M / S = top3 M l3 / (nth L (l3 + 2) + 1) := by
 have h1 := top3_all hL l3 (fun k hk => nth_ge (by omega))
 have h2 := top3_all hM l3 (fun k hk => nth_ge (by omega))
 have h3 : top3 M l3 ≤ top3 L l3 := by rw [← h1, ← h2]; exact Nat.div_le_div_right hle
 have a1 := hL.nth (l3 + 1)
 have a2 := hL.nth l3
 have h4 : nth M (l3 + 2) ≤ nth L (l3 + 2) := by
  unfold top3 at h3
  omega
 refine ⟨h4, ?_, Nat.div_le_div_right h3, 1000000000 ^ l3 * (nth L (l3 + 2) + 1), Nat.mul_pos (Nat.pow_pos (by omega)) (by omega), ?_, ?_⟩
 ·rw [Nat.div_lt_iff_lt_mul (by omega)]
  unfold top3
  omega
 ·rw [← Nat.div_div_eq_div_mul, h1]
 ·rw [← Nat.div_div_eq_div_mul, h2]
def RedPost (L M : List Nat) (w : World) (e : Ending) (w' : World) : Prop := ∃ A1 c1 C A2 c2 D, e = .returned (.tuple #[.slice A1 (List.length C) c1, .slice A2 (List.length D) c2]) ∧
 Row .u32 w' w'.heap.size A1 c1 C ∧ Row .u32 w' w'.heap.size A2 c2 D ∧ Canon C ∧ Canon D ∧ val9 D ≤ val9 C ∧ Nat.gcd (val9 C) (val9 D) = Nat.gcd (val9 L) (val9 M) ∧ val9 C + val9 D < val9 L + val9 M ∧
 List.length C ≤ L.length ∧ List.length D ≤ L.length ∧ Below w.heap.size w w'
set_option maxRecDepth 20000 in
set_option maxHeartbeats 3200000 in
theorem reduce_any (A A' : Option Addr) (c c' l3 : Nat) (L M : List Nat) (w : World) (hl : L.length = l3 + 3) (hl3 : l3 ≤ 390000) (hm3 : 3 ≤ M.length) 
  (hL : Canon L) (hM : Canon M) (hle : val9 M ≤ val9 L) (hR : Row .u32 w w.heap.size A c L) (hR' : Row .u32 w w.heap.size A' c' M) :
  Calls Tryz.prog 99 #[.slice A L.length c, .slice A' M.length c'] w (RedPost L M w) := by
 have hml := canon_len hL hM hle
 obtain ⟨t1, t2, t3, S, s1, s2, s3⟩ := red_lead hl hml hL.lim hM.lim hle
 have hsafe := safe_any A A' c c' l3 L M w hl hl3 (by omega) hL.lim hM.lim hR hR' t1 t2 t3
 have hdiv := fun W h1 h2 => divide_any A A' c c' L M W (by omega) (by omega) (by omega) hL hM h1 h2
 have hco := fun v p q W a1 a2 a3 a4 a5 a6 h1 h2 => combine2 A A' c c' v p q L M W (by omega) hml a1 a2 a3 a4 hL.lim hM.lim a5 a6 h1 h2
 have hend1 : ∀ e W, Below w.heap.size w W → ∀ W', DivPost L M W e W' → ∃ (A1 : Option Addr) (c1 : Nat) (A2 : Option Addr) (c2 : Nat) (Q R : List Nat), e = .returned (.tuple #[.slice A1 (List.length Q) c1, .slice A2 (List.length R) c2]) ∧
   RedPost L M w (.returned (.tuple #[.slice A' M.length c', .slice A2 (List.length R) c2])) W' := by
  rintro e W hbW W' ⟨A1, c1, Q, A2, c2, R, rfl, k1, k2, k3, k4, k5, k6, k7, k8, k9⟩
  have hlr := canon_len hM k4 (Nat.le_of_lt k6)
  have hb := below_then hbW k9 hbW.size
  refine ⟨A1, c1, A2, c2, Q, R, rfl, A', c', M, A2, c2, R, rfl, hR'.up hb, k2, hM, k4, Nat.le_of_lt k6, ?_, by omega, hml, by omega, hb⟩
  have e1 : val9 R = val9 L % val9 M := by
   rw [← k5, Nat.mul_comm, Nat.mul_add_mod, Nat.mod_eq_of_lt k6]
  rw [e1, Nat.gcd_comm, ← Nat.gcd_rec, Nat.gcd_comm]
 have hend2 : ∀ x y s0 s1 s2 s3 : Int, StOut (top3 L l3 / (nth L (l3 + 2) + 1)) (top3 M l3 / (nth L (l3 + 2) + 1)) x y s0 s1 s2 s3 → ¬ (s0 = 1 ∧ s1 = 0 ∧ s2 = 0 ∧ s3 = 1) →
   (-1000000000 ≤ s0 ∧ s0 ≤ 1000000000 ∧ -1000000000 ≤ s1 ∧ s1 ≤ 1000000000 ∧ -1000000000 ≤ s2 ∧ s2 ≤ 1000000000 ∧ -1000000000 ≤ s3 ∧ s3 ≤ 1000000000) ∧ ∃ c d, SE (val9 L) (val9 M) c d s0 s1 s2 s3 := by
  rintro x y _ _ _ _ ⟨e, X, Y, P, Q, R, T, u, v, m, n, h, rfl, rfl, rfl, rfl, rfl, rfl⟩ hne
  refine ⟨⟨(sg_box _ h.p9).1, (sg_box _ h.p9).2, (sg_box _ h.q9).1, (sg_box _ h.q9).2, (sg_box _ h.r9).1, (sg_box _ h.r9).2, (sg_box _ h.t9).1, (sg_box _ h.t9).2⟩, ?_⟩
  rcases h.id with ⟨i1, i2, i3, i4, i5, i6, i7⟩ | ⟨i1, i2, i3, i4⟩
  ·exfalso; apply hne; subst i1 i2 i3 i4 i5; simp [sg]
  ·exact st_end h s1 s2 s3 i1 i2 i3 i4
 have hfin : ∀ W v1 v2 A1 c1 C A2 c2 D s0 s1 s2 s3, SE (val9 L) (val9 M) v1 v2 s0 s1 s2 s3 → Row .u32 W W.heap.size A1 c1 C → Row .u32 W W.heap.size A2 c2 D → Canon C → Canon D → val9 C = v1 → val9 D = v2 → List.length C ≤ L.length → List.length D ≤ L.length → Below w.heap.size w W →
   RedPost L M w (.returned (.tuple #[.slice A1 (List.length C) c1, .slice A2 (List.length D) c2])) W := by
  rintro W v1 v2 A1 c1 C A2 c2 D s0 s1 s2 s3 hse k1 k2 k3 k4 rfl rfl k5 k6 k7
  exact ⟨A1, c1, C, A2, c2, D, rfl, k1, k2, k3, k4, Nat.le_of_lt hse.dc, hse.g, hse.less, k5, k6, k7⟩
 have HSAFE := Lib.hid hsafe
 have HDIV := Lib.hid hdiv
 have HCO := Lib.hid hco
 have HEND1 := Lib.hid hend1
 have HEND2 := Lib.hid hend2
 have HFIN := Lib.hid hfin
 have HR := Lib.hid hR
 have HR' := Lib.hid hR'
 clear hsafe hdiv hco hend1 hend2 hfin hR hR' hl hml t1 t2 t3 s1 s2 s3 hm3 hl3 hle hL hM
 generalize hll : L.length = ll at *
 generalize hlm : M.length = lm at *
 have HLL := Lib.hid hll
 have HLM := Lib.hid hlm
 clear hll hlm
 go_enter Tryz.func99, Tryz.ntmps99
 go_wp2_with fail
 refine HSAFE.out.mono ?_
 rintro e w1 ⟨x, y, s0, s1, s2, s3, rfl, hst, hb1⟩
 have HB1 := Lib.hid hb1
 clear hb1
 by_cases hid : s0 = 1 ∧ s1 = 0 ∧ s2 = 0 ∧ s3 = 1
 ·obtain ⟨rfl, rfl, rfl, rfl⟩ := hid
  have heq : ∀ W : World, (Op.equalIn 10000 144 (.agg #[.int .i64 1, .int .i64 0, .int .i64 0, .int .i64 1]) (.agg #[.int .i64 1, .int .i64 0, .int .i64 0, .int .i64 1])).run Tryz.prog W = .ok true W := fun W => by rw [eq4]; rfl
  have HEQ := Lib.hid heq
  clear heq
  go_wp2_with (simp only [HEQ.out, Result.andThen_ok])
  have hbW : Below w.heap.size w (w1.alloc (.cells #[.int .i64 1, .int .i64 0, .int .i64 0, .int .i64 1] 144)) := HB1.out.alloc HB1.out.size _
  have HBW := Lib.hid hbW
  clear hbW
  refine (HDIV.out _ (HR.out.up HBW.out) (HR'.out.up HBW.out)).mono ?_
  intro e w2 hd
  obtain ⟨A1, c1, A2, c2, Q, R, rfl, hpost⟩ := HEND1.out _ _ HBW.out _ hd
  have HPOST := Lib.hid hpost
  clear hpost hd
  go_wp2_with fail
  go_ret2
  exact HPOST.out
 ·have heq : ∀ W : World, (Op.equalIn 10000 144 (.agg #[.int .i64 s0, .int .i64 s1, .int .i64 s2, .int .i64 s3]) (.agg #[.int .i64 1, .int .i64 0, .int .i64 0, .int .i64 1])).run Tryz.prog W = .ok false W := fun W => by
   rw [eq4]
   have : (s0 == 1 && s1 == 0 && s2 == 0 && s3 == 1) = false := by
    rw [Bool.eq_false_iff]
    intro h
    simp only [Bool.and_eq_true, beq_iff_eq] at h
    exact hid ⟨h.1.1.1, h.1.1.2, h.1.2, h.2⟩
   rw [this]
  have HEQ := Lib.hid heq
  obtain ⟨hbd, v1, v2, hse⟩ := HEND2.out _ _ _ _ _ _ hst.out hid
  have HSE := Lib.hid hse
  have HBD := Lib.hid hbd
  clear heq hse hbd hst hid
  go_wp2_with (simp only [HEQ.out, Result.andThen_ok])
  have hbx := Box4.new w1 s0 s1 s2 s3
  have hbW : Below w.heap.size w (w1.alloc (.cells #[.int .i64 s0, .int .i64 s1, .int .i64 s2, .int .i64 s3] 144)) := HB1.out.alloc HB1.out.size _
  change Code.wp Tryz.prog _ _ _ (w1.alloc (.cells #[.int .i64 s0, .int .i64 s1, .int .i64 s2, .int .i64 s3] 144))
  generalize w1.alloc (.cells #[.int .i64 s0, .int .i64 s1, .int .i64 s2, .int .i64 s3] 144) = W at *
  have hlt := hbx.lt
  obtain ⟨y0, y1, y2, y3, _, _, _, _⟩ := hbx.all
  have hf0 := y0
  have hf1 := y1
  have hf2 := y2
  have hf3 := y3
  have HC := Lib.hid (below_drew (Below.refl W.heap.size W))
  have HRW := Lib.hid (HR.out.up hbW)
  have HRW' := Lib.hid (HR'.out.up hbW)
  have HBW := Lib.hid hbW
  clear hbx hbW HR HR' HB1 HSAFE HDIV HEND1 HEND2 HEQ
  go_region_held3 (fun w' => w'.cell? ⟨w1.heap.size, 0, none⟩ = some (.int .i64 s0) ∧ w'.cell? ⟨w1.heap.size, 1, none⟩ = some (.int .i64 s1) ∧
    w'.cell? ⟨w1.heap.size, 2, none⟩ = some (.int .i64 s2) ∧ w'.cell? ⟨w1.heap.size, 3, none⟩ = some (.int .i64 s3)) (go_keep)
   (first
    | (go_at_call 117; (with_reducible refine (HCO.out v1 s0 s1 _ HBD.out.1 HBD.out.2.1 HBD.out.2.2.1 HBD.out.2.2.2.1 HSE.out.c0 HSE.out.ca (HRW.out.up HC.out) (HRW'.out.up HC.out)).mono ?_); rintro e w4 ⟨A1, c1, X, rfl, i1, i2, i3, i4, hb4⟩; have HX := Lib.hid i1; have HX2 := Lib.hid i2; have HX3 := Lib.hid i3; have HX4 := Lib.hid i4; clear i1 i2 i3 i4; (try (have HY9 := Lib.hid (HY.out.up hb4); clear HY; have HY := HY9; clear HY9)); have HC9 := Lib.hid (below_then HC.out hb4 HC.out.size); clear HC hf0 hf1 hf2 hf3; have HC := HC9; clear HC9; have hf0 := (below_atB (i := 0) HC.out hlt).trans y0; have hf1 := (below_atB (i := 1) HC.out hlt).trans y1; have hf2 := (below_atB (i := 2) HC.out hlt).trans y2; have hf3 := (below_atB (i := 3) HC.out hlt).trans y3; clear hb4)
    | (go_at_call 117; (with_reducible refine (HCO.out v2 s2 s3 _ HBD.out.2.2.2.2.1 HBD.out.2.2.2.2.2.1 HBD.out.2.2.2.2.2.2.1 HBD.out.2.2.2.2.2.2.2 HSE.out.d0 HSE.out.da (HRW.out.up HC.out) (HRW'.out.up HC.out)).mono ?_); rintro e w4 ⟨A2, c2, Y, rfl, i1, i2, i3, i4, hb4⟩; have HY := Lib.hid i1; have HY2 := Lib.hid i2; have HY3 := Lib.hid i3; have HY4 := Lib.hid i4; clear i1 i2 i3 i4; (try (have HX9 := Lib.hid (HX.out.up hb4); clear HX; have HX := HX9; clear HX9)); have HC9 := Lib.hid (below_then HC.out hb4 HC.out.size); clear HC hf0 hf1 hf2 hf3; have HC := HC9; clear HC9; have hf0 := (below_atB (i := 0) HC.out hlt).trans y0; have hf1 := (below_atB (i := 1) HC.out hlt).trans y1; have hf2 := (below_atB (i := 2) HC.out hlt).trans y2; have hf3 := (below_atB (i := 3) HC.out hlt).trans y3; clear hb4))
  all_goals
   go_wp2
   go_ret2
   exact HFIN.out _ v1 v2 _ _ X _ _ Y s0 s1 s2 s3 HSE.out HX.out HY.out HX2.out HY2.out HX3.out HY3.out HX4.out HY4.out (below_then HBW.out HC.out HBW.out.size)
def numAt (w : World) (b o i : Nat) : Nat := match w.cell? ⟨b, o + i, none⟩ with
 | some (.int _ x) => x.toNat
 | _ => 0
def readRow (w : World) : Value → List Nat
 | .slice (some p) n _ => (List.range n).map fun i => numAt w p.block p.off i
 | _ => []
theorem readRow_row {k : IntKind} {w : World} {B c : Nat} {A : Option Addr} {L : List Nat} (h : Row k w B A c L) : readRow w (.slice A L.length c) = L := by
 rcases Nat.eq_zero_or_pos L.length with h0 | h0
 ·have e := List.eq_nil_of_length_eq_zero h0
  subst e
  cases A <;> simp [readRow]
 ·obtain ⟨b, o, rfl, _, hc⟩ := h.spot h0
  simp only [readRow]
  apply List.ext_getElem
  ·simp
  ·intro i h1 h2
   have h3 := hc i h2
   simp only [List.getElem_map, List.getElem_range, numAt, h3]
   rw [nth_lt h2]
   simp
structure CS (L M : List Nat) (w wr : World) (A1 : Option Addr) (c1 : Nat) (C : List Nat) (A2 : Option Addr) (c2 : Nat) (D : List Nat) : Prop where
 r1 : Row .u32 wr wr.heap.size A1 c1 C
 r2 : Row .u32 wr wr.heap.size A2 c2 D
 k1 : Canon C
 k2 : Canon D
 le : val9 D ≤ val9 C
 g : Nat.gcd (val9 C) (val9 D) = Nat.gcd (val9 L) (val9 M)
 lc : C.length ≤ 380000
 bw : Below w.heap.size w wr
def ComPost (L M : List Nat) (w : World) (e : Ending) (w' : World) : Prop := ∃ A1 c1 R, e = .returned (.slice A1 (List.length R) c1) ∧ Row .u32 w' w'.heap.size A1 c1 R ∧ Canon R ∧ val9 R = Nat.gcd (val9 L) (val9 M) ∧ List.length R ≤ L.length + M.length ∧ Below w.heap.size w w'
theorem gcd_len {L M R : List Nat} (hL : Canon L) (hM : Canon M) (hR : Canon R) (h : val9 R = Nat.gcd (val9 L) (val9 M)) : R.length ≤ L.length + M.length := by
 rcases Nat.eq_zero_or_pos (val9 L) with h0 | h0
 ·have : val9 R = val9 M := by rw [h, h0, Nat.gcd_zero_left]
  have := canon_len hM hR (by omega)
  omega
 ·have : val9 R ≤ val9 L := by rw [h]; exact Nat.gcd_le_left _ h0
  have := canon_len hL hR this
  omega
theorem cs_step {L M C D C2 D2 : List Nat} {w wr w2 : World} {A1 A2 A3 A4 : Option Addr} {c1 c2 c3 c4 : Nat} (h : CS L M w wr A1 c1 C A2 c2 D) (i1 : Row .u32 w2 w2.heap.size A3 c3 C2) (i2 : Row .u32 w2 w2.heap.size A4 c4 D2)
  (i3 : Canon C2) (i4 : Canon D2) (i5 : val9 D2 ≤ val9 C2) (i6 : Nat.gcd (val9 C2) (val9 D2) = Nat.gcd (val9 C) (val9 D)) (i7 : C2.length ≤ C.length) (i8 : Below wr.heap.size wr w2) : CS L M w w2 A3 c3 C2 A4 c4 D2 :=
 ⟨i1, i2, i3, i4, i5, i6.trans h.g, Nat.le_trans i7 h.lc, below_then h.bw i8 h.bw.size⟩
theorem val2 {D : List Nat} (h : Lim D) (hl : D.length ≤ 2) : val9 D ≤ 1000000000000000000 := by
 have h1 := valB_lt h
 have h2 : (1000000000 : Nat) ^ D.length ≤ 1000000000 ^ 2 := Nat.pow_le_pow_right (by omega) hl
 have h3 : (1000000000 : Nat) ^ 2 = 1000000000000000000 := by decide
 unfold val9
 omega
set_option maxRecDepth 20000 in
set_option maxHeartbeats 3200000 in
theorem comDiv_any (A A' : Option Addr) (c c' : Nat) (L M : List Nat) (w : World) (hl : L.length ≤ 380000) (hm : M.length ≤ 380000)
  (hL : Canon L) (hM : Canon M) (hR : Row .u32 w w.heap.size A c L) (hR' : Row .u32 w w.heap.size A' c' M) :
  Calls Tryz.prog 80 #[.slice A L.length c, .slice A' M.length c'] w (ComPost L M w) := by
 have hcmp := compare_row A A' c c' L M w (by omega) (by omega) hR hR' hL hM
 have hfin : ∀ W A1 c1 R, Row .u32 W W.heap.size A1 c1 R → Canon R → val9 R = Nat.gcd (val9 L) (val9 M) → Below w.heap.size w W → ComPost L M w (.returned (.slice A1 (List.length R) c1)) W :=
  fun W A1 c1 R k1 k2 k3 k4 => ⟨A1, c1, R, rfl, k1, k2, k3, gcd_len hL hM k2 k3, k4⟩
 have hst1 : ∀ n, val9 M ≤ val9 L → CS L M w (w.drewN n) A c L A' c' M := fun n h => ⟨hR.drewN n, hR'.drewN n, hL, hM, h, rfl, hl, below_drewN (Below.refl _ _) n⟩
 have hst2 : ∀ n, val9 L ≤ val9 M → CS L M w (w.drewN n) A' c' M A c L := fun n h => ⟨hR'.drewN n, hR.drewN n, hM, hL, h, Nat.gcd_comm _ _, hm, below_drewN (Below.refl _ _) n⟩
 have HFIN := Lib.hid hfin
 have HST1 := Lib.hid hst1
 have HST2 := Lib.hid hst2
 have HCMP := Lib.hid hcmp
 clear hfin hst1 hst2 hcmp hR hR' hL hM
 have hcases : (decide (cmpZ (val9 L) (val9 M) < 0) = true ∧ Hid (val9 L ≤ val9 M)) ∨ (decide (cmpZ (val9 L) (val9 M) < 0) = false ∧ Hid (val9 M ≤ val9 L)) := by
  rcases Nat.lt_or_ge (val9 L) (val9 M) with h | h
  ·exact Or.inl ⟨cmpZ_lt h, Nat.le_of_lt h⟩
  ·exact Or.inr ⟨cmpZ_ge h, h⟩
 generalize cmpZ (val9 L) (val9 M) = cc at *
 generalize hll : L.length = ll at *
 generalize hlm : M.length = lm at *
 have HLL := Lib.hid hll
 have HLM := Lib.hid hlm
 clear hll hlm
 rcases hcases with ⟨hd, hle⟩ | ⟨hd, hle⟩
 all_goals
  go_enter Tryz.func80, Tryz.ntmps80
  go_wp2_with fail
  refine HCMP.out.mono ?_
  rintro e w1 ⟨rfl, n, rfl⟩
  go_wp2_with fail
  clear hd
  go_loopw [0, 1] (fun av bv wr => ∃ A1 c1 C A2 c2 D, av = .slice A1 (List.length C) c1 ∧ bv = .slice A2 (List.length D) c2 ∧ Hid (CS L M w wr A1 c1 C A2 c2 D)) (fun av bv wr => val9 (readRow wr av) + val9 (readRow wr bv))
  case atStart =>
   first
   | exact ⟨A, c, L, A', c', M, by rw [HLL.out], by rw [HLM.out], HST1.out _ hle.out⟩
   | exact ⟨A', c', M, A, c, L, by rw [HLM.out], by rw [HLL.out], HST2.out _ hle.out⟩
  case round =>
   obtain ⟨A1, c1, C, A2, c2, D, rfl, rfl, hcs⟩ := hrel
   have hcl := hcs.out.lc
   have hdl := canon_len hcs.out.k1 hcs.out.k2 hcs.out.le
   have hm1 := congrArg val9 (readRow_row hcs.out.r1)
   have hm2 := congrArg val9 (readRow_row hcs.out.r2)
   have hred : 3 ≤ D.length → Calls Tryz.prog 99 #[.slice A1 C.length c1, .slice A2 D.length c2] wr (RedPost C D wr) := fun h3 =>
    reduce_any A1 A2 c1 c2 (C.length - 3) C D wr (by omega) (by omega) h3 hcs.out.k1 hcs.out.k2 hcs.out.le hcs.out.r1 hcs.out.r2
   have hcop := copied_any A1 c1 C wr (by omega) hcs.out.r1
   have hdiv : 0 < D.length → Calls Tryz.prog 78 #[.slice A1 C.length c1, .slice A2 D.length c2] wr (DivPost C D wr) := fun h0 =>
    divide_any A1 A2 c1 c2 C D wr (by omega) (by omega) h0 hcs.out.k1 hcs.out.k2 hcs.out.r1 hcs.out.r2
   have hword : ∀ W, D.length ≤ 2 → Below wr.heap.size wr W → Calls Tryz.prog 52 #[.slice A2 D.length c2] W fun e w' => e = .returned (.int .u64 (val9 D)) ∧ W = w' := fun W h2 hb =>
    wordOf_any A2 c2 D W (by omega) (by have := val2 hcs.out.k2.lim h2; omega) (hcs.out.r2.up hb) hcs.out.k2.lim
   have hzero : D.length = 0 → val9 C = Nat.gcd (val9 L) (val9 M) := fun h0 => by
    rw [← hcs.out.g, val9_nil h0, Nat.gcd_zero_right]
   have HM1 := Lib.hid hm1
   have HM2 := Lib.hid hm2
   have HRED := Lib.hid hred
   have HCOP := Lib.hid hcop
   have HDIV := Lib.hid hdiv
   have HWORD := Lib.hid hword
   have HZERO := Lib.hid hzero
   clear hm1 hm2 hred hcop hdiv hword hzero
   generalize hlc : C.length = lc at *
   generalize hld : D.length = ld at *
   have HLC := Lib.hid hlc
   have HLD := Lib.hid hld
   clear hlc hld
   rcases Nat.lt_or_ge 2 ld with h3 | h2
   ·have h3i : (2 : Int) < (ld : Int) := by omega
    have hr := HRED.out h3
    have HR3 := Lib.hid hr
    clear hr HRED HCOP HDIV HWORD HZERO
    go_wp2_with fail
    refine HR3.out.mono ?_
    rintro e w2 ⟨A3, c3, C2, A4, c4, D2, rfl, i1, i2, i3, i4, i5, i6, i7, i8, i9, i10⟩
    have HN := Lib.hid (cs_step hcs.out i1 i2 i3 i4 i5 i6 (by rw [HLC.out]; rw [HLC.out] at i8; exact i8) i10)
    have HM3 := Lib.hid (congrArg val9 (readRow_row i1))
    have HM4 := Lib.hid (congrArg val9 (readRow_row i2))
    have HM5 := Lib.hid i7
    clear i1 i2 i3 i4 i5 i6 i7 i8 i9 i10
    go_wp2_with fail
    go_roundw
    case rel => exact ⟨A3, c3, C2, A4, c4, D2, rfl, rfl, HN.out⟩
    case measure =>
     show val9 (readRow w2 (.slice A3 (List.length C2) c3)) + val9 (readRow w2 (.slice A4 (List.length D2) c4)) < val9 (readRow wr (.slice A1 lc c1)) + val9 (readRow wr (.slice A2 ld c2))
     rw [HM1.out, HM2.out, HM3.out, HM4.out]
     exact HM5.out
   ·rcases Nat.eq_zero_or_pos ld with h0 | h0
    ·have hz := HZERO.out h0
     subst h0
     have HZ := Lib.hid hz
     clear hz HRED HDIV HWORD HZERO h2
     go_wp2_with fail
     refine HCOP.out.mono ?_
     rintro e w2 ⟨rfl, hb, hbw⟩
     have HN := Lib.hid (HFIN.out w2 (some ⟨wr.heap.size, 0, none⟩) lc C (Row.ofBlk hb hb.lt (by rw [HLC.out]; exact Nat.le_refl _)) hcs.out.k1 HZ.out (below_then hcs.out.bw hbw hcs.out.bw.size))
     clear hb hbw
     go_wp2_with fail
     go_ret
     have hn := HN.out
     rw [HLC.out] at hn
     exact hn
    ·have h0i : (0 : Int) < (ld : Int) := by omega
     have hne : ((ld : Int) == 0) = false := by rw [beq_eq_false_iff_ne]; omega
     have h2i : ¬ (2 : Int) < (ld : Int) := by omega
     have hdv := HDIV.out h0
     have HDV := Lib.hid hdv
     have HW := Lib.hid (fun W => HWORD.out W h2)
     clear hdv HRED HCOP HDIV HWORD HZERO
     go_wp2_with fail
     refine HDV.out.mono ?_
     rintro e w2 ⟨A3, c3, Q, A4, c4, R, rfl, i1, i2, i3, i4, i5, i6, i7, i8, i9⟩
     have hrl := canon_len hcs.out.k2 i4 (Nat.le_of_lt i6)
     rw [HLD.out] at hrl
     have hw4 := wordOf_any A4 c4 R w2 (by omega) (by have := val2 i4.lim (by omega); omega) i2 i4.lim
     have hg0 : Nat.gcd (val9 D) (val9 R) = Nat.gcd (val9 L) (val9 M) := by
      have e1 : val9 R = val9 C % val9 D := by rw [← i5, Nat.mul_comm, Nat.mul_add_mod, Nat.mod_eq_of_lt i6]
      rw [e1, Nat.gcd_comm, ← Nat.gcd_rec, Nat.gcd_comm, hcs.out.g]
     have hv1 := val2 hcs.out.k2.lim (by rw [HLD.out]; omega)
     have hv2 := val2 i4.lim (by omega)
     have hv3 : Nat.gcd (val9 L) (val9 M) ≤ 1000000000000000000 := by
      rw [← hg0]
      exact Nat.le_trans (Nat.gcd_le_left _ (by omega)) hv1
     have hwg := wordGcd_any (val9 D) (val9 R) w2 (by omega) (by omega)
     rw [hg0] at hwg
     have HW4 := Lib.hid hw4
     have HWG := Lib.hid hwg
     have HV3 := Lib.hid hv3
     have HBB := Lib.hid i9
     have HB := Lib.hid (below_then hcs.out.bw i9 hcs.out.bw.size)
     clear i1 i2 i3 i4 i5 i6 i7 i8 i9 hw4 hwg hg0 hv1 hv2 hv3
     go_wp2_with fail
     refine (HW.out _ HBB.out).mono ?_
     rintro e w5 ⟨rfl, rfl⟩
     go_wp2_with fail
     refine HW4.out.mono ?_
     rintro e w5 ⟨rfl, rfl⟩
     go_wp2_with fail
     refine HWG.out.mono ?_
     rintro e w5 ⟨rfl, k, rfl⟩
     go_wp2_with fail
     refine (limbsOf_any _ _ (by have := HV3.out; omega)).mono ?_
     rintro e w5 ⟨A5, c5, rfl, j1, j2⟩
     have HN := Lib.hid (HFIN.out w5 A5 c5 _ j1 (limbsN_canon _) (limbsN_val _) (below_then HB.out (below_undrewN j2) HB.out.size))
     clear j1 j2
     go_wp2_with fail
     go_ret
     exact HN.out
set_option maxHeartbeats 6400000
set_option maxRecDepth 20000
theorem tdiv_sign (n m : Bool) (a b q r : Nat) (h : q * b + r = a) (hr : r < b) :
  Int.tdiv (if n then -(a : Int) else a) (if m then -(b : Int) else b) = (if n != m then -(q : Int) else q) ∧ Int.tmod (if n then -(a : Int) else a) (if m then -(b : Int) else b) = (if n then -(r : Int) else r) := by
 have hq : a / b = q := Nat.div_eq_of_lt_le (by omega) (by rw [Nat.add_mul]; omega)
 have hm : a % b = r := by have := Nat.div_add_mod a b; rw [hq, Nat.mul_comm] at this; omega
 have e1 : Int.tdiv (a : Int) (b : Int) = (q : Int) := by rw [← hq]; rfl
 have e2 : Int.tmod (a : Int) (b : Int) = (r : Int) := by rw [← hm]; rfl
 cases n <;> cases m <;> simp [Int.neg_tdiv, Int.tdiv_neg, Int.neg_tmod, Int.tmod_neg, e1, e2]
theorem zI_signed (k : Bool) {Q : List Nat} (h0 : Q.length = 0 → val9 Q = 0) : zI (k && decide (0 < Q.length)) Q = if k then -(val9 Q : Int) else val9 Q := by
 unfold zI
 rcases Nat.eq_zero_or_pos Q.length with h | h
 ·rw [h0 h]; simp
 ·have e : decide (0 < Q.length) = true := by simpa using h
  rw [e, Bool.and_true]
theorem qr_final {w w4 : World} {p0 p1 p2 p3 : Value} {k1 k2 : Bool} {A1 A2 : Option Addr} {c1 c2 : Nat} {Q R : List Nat} (hS : St w w4 p0 p1 p2 p3 (.bool false) (.slice none 0 0) (.bool false) (.slice none 0 0))
  (h1 : IntR w4 w4.heap.size k1 A1 c1 Q) (h2 : IntR w4 w4.heap.size k2 A2 c2 R) (u1 v1 u2 v2 : Value) {W : World} (hW : W = setPair (setPair w4 (w.heap.size + 1 + 1) u1 v1) (w.heap.size + 1 + 1 + 1) u2 v2) :
  IntR W W.heap.size k1 A1 c1 Q ∧ IntR W W.heap.size k2 A2 c2 R ∧ Below w.heap.size w W := by
 subst hW
 have hS2 := hS.s2 u1 v1
 rw [setPair_size, setPair_size]
 exact ⟨IntR.pair hS2.b3 (IntR.pair hS.b2 h1 u1 v1) u2 v2, IntR.pair hS2.b3 (IntR.pair hS.b2 h2 u1 v1) u2 v2, (hS2.s3 u2 v2).bw⟩
theorem qr_final2 {w w4 : World} {p0 p1 p2 p3 : Value} {k1 k2 : Bool} {A1 A2 : Option Addr} {c1 c2 : Nat} {Q R : List Nat} (hS : St w w4 p0 p1 p2 p3 (.bool false) (.slice none 0 0) (.bool false) (.slice none 0 0))
  (h1 : IntR w4 w4.heap.size k1 A1 c1 Q) (h2 : IntR w4 w4.heap.size k2 A2 c2 R) (u1 v1 u2 v2 : Value) {W : World} (hW : W = setPair (setPair w4 (w.heap.size + 1 + 1 + 1) u2 v2) (w.heap.size + 1 + 1) u1 v1) :
  IntR W W.heap.size k1 A1 c1 Q ∧ IntR W W.heap.size k2 A2 c2 R ∧ Below w.heap.size w W := by
 subst hW
 have hS2 := hS.s3 u2 v2
 rw [setPair_size, setPair_size]
 exact ⟨IntR.pair hS2.b2 (IntR.pair hS.b3 h1 u2 v2) u1 v1, IntR.pair hS2.b2 (IntR.pair hS.b3 h2 u2 v2) u1 v1, (hS2.s2 u1 v1).bw⟩
theorem qr_post {w w4 W : World} {p0 p1 p2 p3 : Value} {n m : Bool} {A1 A2 : Option Addr} {c1 c2 : Nat} {Q R L M : List Nat} (hS : St w w4 p0 p1 p2 p3 (.bool false) (.slice none 0 0) (.bool false) (.slice none 0 0))
  (h1 : IntR w4 w4.heap.size (!(n == m) && decide (0 < Q.length)) A1 c1 Q) (h2 : IntR w4 w4.heap.size (n && decide (0 < R.length)) A2 c2 R) {u1 v1 u2 v2 : Value}
  (hW : W = setPair (setPair w4 (w.heap.size + 1 + 1) u1 v1) (w.heap.size + 1 + 1 + 1) u2 v2 ∨ W = setPair (setPair w4 (w.heap.size + 1 + 1 + 1) u2 v2) (w.heap.size + 1 + 1) u1 v1)
  (hv : val9 Q * val9 M + val9 R = val9 L) (hlt : val9 R < val9 M) {l : Nat} (hq : Q.length ≤ l) (hr : R.length ≤ l + 1) {lq lr : Nat} (hlq : Q.length = lq) (hlr : R.length = lr) :
  ∃ k1 B1 d1 Q' k2 B2 d2 R', Ending.returned (.tuple #[.agg #[.bool (!(n == m) && decide (0 < lq)), .slice A1 lq c1], .agg #[.bool (n && decide (0 < lr)), .slice A2 lr c2], .int .i64 0]) = Ending.returned (.tuple #[.agg #[.bool k1, .slice B1 (List.length Q') d1], .agg #[.bool k2, .slice B2 (List.length R') d2], .int .i64 0]) ∧
   IntR W W.heap.size k1 B1 d1 Q' ∧ IntR W W.heap.size k2 B2 d2 R' ∧ zI k1 Q' = Int.tdiv (zI n L) (zI m M) ∧ zI k2 R' = Int.tmod (zI n L) (zI m M) ∧ List.length Q' ≤ l ∧ List.length R' ≤ l + 1 ∧ Below w.heap.size w W := by
 subst hlq
 subst hlr
 have hf : IntR W W.heap.size (!(n == m) && decide (0 < Q.length)) A1 c1 Q ∧ IntR W W.heap.size (n && decide (0 < R.length)) A2 c2 R ∧ Below w.heap.size w W := by
  rcases hW with hW | hW
  ·exact qr_final hS h1 h2 _ _ _ _ hW
  ·exact qr_final2 hS h1 h2 _ _ _ _ hW
 have hz := tdiv_sign n m (val9 L) (val9 M) (val9 Q) (val9 R) hv hlt
 exact ⟨_, A1, c1, Q, _, A2, c2, R, rfl, hf.1, hf.2.1, by rw [zI_signed _ val9_nil]; exact hz.1.symm, by rw [zI_signed _ val9_nil]; exact hz.2.symm, hq, hr, hf.2.2⟩
theorem quoRem_zero (n m : Bool) (A A' : Option Addr) (c c' : Nat) (L : List Nat) (w : World) :
  Calls Tryz.prog 54 #[.agg #[.bool n, .slice A L.length c], .agg #[.bool m, .slice A' 0 c']] w fun e w' => e = .returned (.tuple #[.agg #[.bool false, .slice none 0 0], .agg #[.bool false, .slice none 0 0], .int .i64 10]) ∧ Below w.heap.size w w' := by
 generalize L.length = l at *
 go_enter Tryz.func54, Tryz.ntmps54
 go_wp2
 refine bodyPost_ret (v := .tuple #[.agg #[.bool false, .slice none 0 0], .agg #[.bool false, .slice none 0 0], .int .i64 10]) (by simp [results, Tryz.results54, go_sem]) rfl ⟨rfl, ?_⟩
 exact (below_a2 w _ _).trans (Below.less (below_a2 _ _ _) (by simp; omega))
theorem quoRem_pos (n m : Bool) (A A' : Option Addr) (c c' : Nat) (L M : List Nat) (w : World) (hl : L.length ≤ 400000) (hml : M.length ≤ 400000) (hm0 : 0 < M.length)
  (hL : IntR w w.heap.size n A c L) (hM : IntR w w.heap.size m A' c' M) :
  Calls Tryz.prog 54 #[.agg #[.bool n, .slice A L.length c], .agg #[.bool m, .slice A' M.length c']] w fun e w' => ∃ k1 A1 c1 Q k2 A2 c2 R, e = .returned (.tuple #[.agg #[.bool k1, .slice A1 (List.length Q) c1], .agg #[.bool k2, .slice A2 (List.length R) c2], .int .i64 0]) ∧
   IntR w' w'.heap.size k1 A1 c1 Q ∧ IntR w' w'.heap.size k2 A2 c2 R ∧ zI k1 Q = Int.tdiv (zI n L) (zI m M) ∧ zI k2 R = Int.tmod (zI n L) (zI m M) ∧ List.length Q ≤ L.length ∧ List.length R ≤ L.length + 1 ∧ Below w.heap.size w w' := by
 have F := four_boxes w (.bool n) (.slice A L.length c) (.bool m) (.slice A' M.length c') (.bool false) (.slice none 0 0) (.bool false) (.slice none 0 0) 25 25 25 25
 have hdv := fun W h1 h2 => divide_any A A' c c' L M W hl hml hm0 hL.canon hM.canon h1 h2
 have HDV := Lib.hid hdv
 have hne : ((M.length : Int) == 0) = false := by rw [beq_eq_false_iff_ne]; omega
 clear hdv
 generalize hl' : L.length = l at *
 generalize hm' : M.length = l2 at *
 have HLL := Lib.hid hl'
 have HML := Lib.hid hm'
 clear hl' hm'
 go_enter Tryz.func54, Tryz.ntmps54
 go_upto_region 3 with (fail)
 change Code.wp Tryz.prog _ _ _ ((((w.alloc (.cells #[.bool n, .slice A l c] 25)).alloc (.cells #[.bool m, .slice A' l2 c'] 25)).alloc (.cells #[.bool false, .slice none 0 0] 25)).alloc (.cells #[.bool false, .slice none 0 0] 25))
 generalize (((w.alloc (.cells #[.bool n, .slice A l c] 25)).alloc (.cells #[.bool m, .slice A' l2 c'] 25)).alloc (.cells #[.bool false, .slice none 0 0] 25)).alloc (.cells #[.bool false, .slice none 0 0] 25) = W0 at *
 obtain ⟨b0, b1, b2, b3, hsz, hbw⟩ := F
 have S0 : St w W0 _ _ _ _ _ _ _ _ := ⟨b0, b1, b2, b3, hbw, by omega⟩
 have x0 := b0.c0
 have x1 := b0.c1
 have x2 := b1.c0
 have x3 := b1.c1
 go_wp2_with fail
 have rL := hL.row.up S0.bw
 have rM := hM.row.up S0.bw
 refine (HDV.out W0 rL rM).mono ?_
 rintro e w1 ⟨A1, c1, Q, A2, c2, R, rfl, rQ, rR, cQ, cR, hv, hlt, hlq, hlr, hb1⟩
 have S1 := S0.call hb1
 have hn1 : ¬ w.heap.size + 1 + 1 = w.heap.size := by omega
 have hn2 : ¬ w.heap.size + 1 + 1 + 1 = w.heap.size := by omega
 have hn3 : ¬ w.heap.size + 1 + 1 = w.heap.size + 1 := by omega
 have hn4 : ¬ w.heap.size + 1 + 1 + 1 = w.heap.size + 1 := by omega
 have hn5 : ¬ w.heap.size + 1 + 1 + 1 = w.heap.size + 1 + 1 := by omega
 have hn6 : ¬ w.heap.size + 1 + 1 = w.heap.size + 1 + 1 + 1 := by omega
 have x0 := S1.b0.c0
 have x1 := S1.b0.c1
 have x2 := S1.b1.c0
 have x3 := S1.b1.c1
 have y0 := S1.b2.c0
 have y1 := S1.b2.c1
 have y2 := S1.b3.c0
 have y3 := S1.b3.c1
 have z0 := S1.b2.f0
 have z1 := S1.b2.f1
 have z2 := S1.b3.f0
 have z3 := S1.b3.f1
 have HS1 := Lib.hid S1
 have HV := Lib.hid hv
 have HLT := Lib.hid hlt
 have RQ := Lib.hid rQ
 have RR := Lib.hid rR
 have HC := Lib.hid (below_drew (Below.refl w1.heap.size w1))
 clear S0 hb1 hbw hsz b0 b1 b2 b3 rL rM hv hlt S1 rQ rR
 generalize hlq' : List.length Q = lq at *
 generalize hlr' : List.length R = lr at *
 have HLQ := Lib.hid hlq'
 have HLR := Lib.hid hlr'
 clear hlq' hlr'
 go_wp2_with fail
 go_region_held3 (fun w' => w'.cell? ⟨w.heap.size, 0, none⟩ = some (.bool n) ∧ w'.cell? ⟨w.heap.size + 1, 0, none⟩ = some (.bool m)) (go_keep)
  (first
   | (go_at_call 37; (with_reducible refine (signed_any _ _ _ _ _).mono ?_); rintro e w4 ⟨rfl, hb4⟩; have HC9 := Lib.hid (below_then HC.out hb4 HC.out.size); clear HC; have HC := HC9; clear HC9 hb4 x0 x1 x2 x3 y0 y1 y2 y3 z0 z1 z2 z3; have S9 := HS1.out.call HC.out; have x0 := S9.b0.c0; have x1 := S9.b0.c1; have x2 := S9.b1.c0; have x3 := S9.b1.c1; have y0 := S9.b2.c0; have y1 := S9.b2.c1; have y2 := S9.b3.c0; have y3 := S9.b3.c1; have z0 := S9.b2.f0; have z1 := S9.b2.f1; have z2 := S9.b3.f0; have z3 := S9.b3.f1; clear S9))
 all_goals
  go_wp2
  have hS := HS1.out.call HC.out
  have hi1 : IntR w4 w4.heap.size (!(n == m) && decide (0 < lq)) A1 c1 Q := ⟨RQ.out.up HC.out, cQ, fun hk hR => by rw [← HLQ.out, hR] at hk; simp at hk⟩
  have hi2 : IntR w4 w4.heap.size (n && decide (0 < lr)) A2 c2 R := ⟨RR.out.up HC.out, cR, fun hk hR => by rw [← HLR.out, hR] at hk; simp at hk⟩
  refine bodyPost_ret (v := .tuple #[.agg #[.bool (!(n == m) && decide (0 < lq)), .slice A1 lq c1], .agg #[.bool (n && decide (0 < lr)), .slice A2 lr c2], .int .i64 0]) (by simp [results, Tryz.results54, go_sem, y0, y1, y2, y3]) rfl ?_
  rw [← HLQ.out] at hi1
  rw [← HLR.out] at hi2
  exact qr_post hS hi1 hi2 (by first | exact .inl rfl | exact .inr rfl) HV.out HLT.out (by rw [HLQ.out, ← HLL.out]; exact hlq) (by rw [HLR.out, ← HLL.out]; exact hlr) HLQ.out HLR.out
theorem zI_natAbs (n : Bool) (L : List Nat) : (zI n L).natAbs = val9 L := by unfold zI; split <;> simp
set_option maxRecDepth 20000 in
set_option maxHeartbeats 3200000 in
theorem gcd_any (n m : Bool) (A A' : Option Addr) (c c' : Nat) (L M : List Nat) (w : World) (hl : L.length ≤ 380000) (hml : M.length ≤ 380000) (hL : IntR w w.heap.size n A c L) (hM : IntR w w.heap.size m A' c' M) :
  Calls Tryz.prog 58 #[.agg #[.bool n, .slice A L.length c], .agg #[.bool m, .slice A' M.length c']] w fun e w' => ∃ k A c R, e = .returned (.agg #[.bool k, .slice A R.length c]) ∧
   IntR w' w'.heap.size k A c R ∧ zI k R = (Int.gcd (zI n L) (zI m M) : Int) ∧ R.length ≤ L.length + M.length ∧ Below w.heap.size w w' := by
 have hcd := fun W h1 h2 => comDiv_any A A' c c' L M W hl hml hL.canon hM.canon h1 h2
 have hgg : Nat.gcd (val9 L) (val9 M) = Int.gcd (zI n L) (zI m M) := by unfold Int.gcd; rw [zI_natAbs, zI_natAbs]
 have HCD := Lib.hid hcd
 have HGG := Lib.hid hgg
 clear hcd hgg
 have hba := below_a3 w (.cells #[.bool n, .slice A L.length c] 25) (.cells #[.bool m, .slice A' M.length c'] 25) (.cells #[.bool false, .slice none 0 0] 25)
 have Y := three (Below.refl _ (((w.alloc (.cells #[.bool n, .slice A L.length c] 25)).alloc (.cells #[.bool m, .slice A' M.length c'] 25)).alloc (.cells #[.bool false, .slice none 0 0] 25)))
 have hbr := Box.new ((w.alloc (.cells #[.bool n, .slice A L.length c] 25)).alloc (.cells #[.bool m, .slice A' M.length c'] 25)) (.bool false) (.slice none 0 0) 25
 rw [show ((w.alloc (.cells #[.bool n, .slice A L.length c] 25)).alloc (.cells #[.bool m, .slice A' M.length c'] 25)).heap.size = w.heap.size + 1 + 1 by simp] at hbr
 have hsz : w.heap.size + 3 ≤ (((w.alloc (.cells #[.bool n, .slice A L.length c] 25)).alloc (.cells #[.bool m, .slice A' M.length c'] 25)).alloc (.cells #[.bool false, .slice none 0 0] 25)).heap.size := by simp
 generalize hl' : L.length = l at *
 generalize hm' : M.length = l2 at *
 have HLL := Lib.hid hl'
 have HML := Lib.hid hm'
 clear hl' hm'
 go_enter Tryz.func58, Tryz.ntmps58
 go_upto_region 1 with (fail)
 change Code.wp Tryz.prog _ _ _ (((w.alloc (.cells #[.bool n, .slice A l c] 25)).alloc (.cells #[.bool m, .slice A' l2 c'] 25)).alloc (.cells #[.bool false, .slice none 0 0] 25))
 generalize ((w.alloc (.cells #[.bool n, .slice A l c] 25)).alloc (.cells #[.bool m, .slice A' l2 c'] 25)).alloc (.cells #[.bool false, .slice none 0 0] 25) = W0 at *
 have x0 := Y.1
 have x1 := Y.2.1
 have x2 := Y.2.2.1
 have x3 := Y.2.2.2.1
 have r1 := hL.row.up hba
 have r2 := hM.row.up hba
 have HBR := Lib.hid hbr
 have HBA := Lib.hid hba
 have R1 := Lib.hid r1
 have R2 := Lib.hid r2
 clear Y hbr hba r1 r2 hL hM
 go_wp2_with fail
 refine (HCD.out _ R1.out R2.out).mono ?_
 rintro e w1 ⟨A1, c1, R, rfl, i1, i2, i3, i4, i5⟩
 have HB1 := Lib.hid i5
 have I1 := Lib.hid i1
 have I2 := Lib.hid i2
 have I3 := Lib.hid i3
 have I4 := Lib.hid i4
 clear i1 i2 i3 i4 i5
 generalize hrl : List.length R = lr at *
 have HRL := Lib.hid hrl
 clear hrl
 go_wp2_with fail
 refine (signed_any _ _ _ _ _).mono ?_
 rintro e w2 ⟨rfl, hb2⟩
 have hb12 := below_then HB1.out hb2 HB1.out.size
 have b2 := HBR.out.below hb12 (by omega)
 have HB2 := Lib.hid b2
 have HBW := Lib.hid (below_then HBA.out hb12 HBA.out.size)
 have HR2 := Lib.hid (I1.out.up hb2)
 have y0 := b2.c0
 have y1 := b2.c1
 have z0 := b2.f0
 have z1 := b2.f1
 clear hb12 b2 hb2 x0 x1 x2 x3
 go_wp2_with fail
 have HI : IntR w2 w2.heap.size false A1 c1 R := ⟨HR2.out, I2.out, fun h => by simp at h⟩
 refine bodyPost_ret (v := .agg #[.bool false, .slice A1 lr c1]) (by simp [results, Tryz.results58, go_sem, y0, y1]) rfl ⟨false, A1, c1, R, by rw [HRL.out], ?_, by rw [← HGG.out, ← I3.out]; rfl, by have := I4.out; rw [HLL.out, HML.out] at this; rw [HRL.out]; exact this, (HBW.out.setCell (by simp; omega) _).setCell (by simp; omega) _⟩
 rw [setCell_size, setCell_size]
 exact IntR.pair HB2.out HI _ _
theorem gcd_fact {x y : Int} {n m : Nat} {a b : Value} {w : World} (h1 : PInt x n a w) (h2 : PInt y m b w) (hn : n ≤ 380000) (hm : m ≤ 380000) :
  Calls Tryz.prog 58 #[a, b] w fun e w' => ∃ v, e = .returned v ∧ PInt (Int.gcd x y : Int) (n + m) v w' ∧ Below w.heap.size w w' := by
 obtain ⟨k, A, c, L, rfl, i1, rfl, l1⟩ := h1
 obtain ⟨k2, A2, c2, L2, rfl, i2, rfl, l2⟩ := h2
 refine (gcd_any k k2 A A2 c c2 L L2 w (by omega) (by omega) i1 i2).mono ?_
 rintro e w' ⟨q, B, d, R, rfl, hi, hz, hl, hb⟩
 exact ⟨_, rfl, ⟨q, B, d, R, rfl, hi, hz, by omega⟩, hb⟩
theorem Own.ofBlk {k : IntKind} {e : TypeId} {w : World} {base g : Nat} {L : List Nat} (h : Blk k e w g L) (hb : base ≤ g) (hl : L.length ≤ 1000000) : Own k e w base (.slice (some ⟨g, 0, none⟩) L.length L.length) L := by
 refine ⟨by simp, .inr ⟨g, L.length, _, rfl, hb, h, Nat.le_refl _, by unfold maxLen; omega, by simp, by simp only [Nat.mul_one]; exact List.take_of_length_le (by simp)⟩⟩
theorem Own.lies {k : IntKind} {e : TypeId} {w : World} {base : Nat} {v : Value} {L : List Nat} (h : Own k e w base v L) :
  ∃ A c, v = .slice A L.length c ∧ Row k w w.heap.size A c L ∧ (∀ b o, A = some ⟨b, o, none⟩ → base ≤ b) := by
 obtain ⟨A, c, rfl, hr⟩ := h.row
 refine ⟨A, c, rfl, hr, fun b o hA => ?_⟩
 subst hA
 rcases h.2 with ⟨h0, _⟩ | ⟨g, cap, cur, he, hbg, _⟩
 ·cases h0
 ·injection he with h1 h2 h3
  injection h1 with h1
  injection h1 with h1 h4 h5
  omega
theorem run_append_nil_any {P : Program} {w : World} (base : Nat) (t ty e : TypeId) (i : TypeInfo) (ht : P.underlying t = some (.slice e)) (hi : P.info? e = some i) {size : Nat}
  (v : Value) (n : Nat) (xs : List Value) (hown : w.ownsRow base e size v n xs) (c : Nat) : (Builtin.append_ #[t, t] ty #[v, .slice none 0 c]).run P w = .ok v w := by
 rcases hown.2 with ⟨rfl, rfl⟩ | ⟨g, cap, cur, rfl, _, _, hnc, _⟩
 ·simp [Builtin.append_, run_underlying ht, sizeOf, typeInfo, hi, Builtin.lenOf, Builtin.firstCells]
 ·simp [Builtin.append_, run_underlying ht, sizeOf, typeInfo, hi, Builtin.lenOf, Builtin.firstCells, hnc, storeCells]
theorem wpList_append_row {P : Program} {w : World} {ops : Array Oper} {rest : List Oper} {o : Oper} {a : Act} {Q : Exit → Act → World → Prop} (hgd : o.guard = none) (s x : Operand) (t : TypeId)
  (ho : o.op = .call { callee := .builtin .append, args := #[s, x], argTypes := #[t, t] })
  (k : IntKind) (base : Nat) (e : TypeId) (i : TypeInfo) (bytes : Nat) (ht : P.underlying t = some (.slice e)) (hi : P.info? e = some i) (hz : i.zero = some (.int k 0))
  (hsize : i.size = 1) (hby : i.bytes = bytes) (hb8 : bytes ≤ 8)
  (v : Value) (L : List Nat) (hs : a.eval s = v) (hown : Own k e w base v L) (A : Option Addr) (m c : Nat) (M : List Nat) (hm : M.length = m) (hx : a.eval x = .slice A m c) {B : Nat} (hR : Row k w B A c M)
  (hlen : L.length + m ≤ 100000000) (hbase : base ≤ w.heap.size)
  (h : ∀ v' w', Hid (Own k e w' base v' (L ++ M)) → Below base w w' → wpList P ops Q rest (a.put o.dst v') w') : wpList P ops Q (o :: rest) a w := by
 subst hm
 have hb := Nat.mul_le_mul_left (L.length + M.length) hb8
 rcases A with _ | ad
 ·have h0 : M.length = 0 := by
   rcases Nat.eq_zero_or_pos M.length with h0 | h0
   ·exact h0
   ·obtain ⟨b, o', e1, _, _⟩ := hR.spot h0; cases e1
  have hM : M = [] := List.eq_nil_of_length_eq_zero h0
  subst hM
  refine wpList_plain hgd fun K hK => ?_
  have hrun := run_append_nil_any (P := P) (w := w) base t o.type e i ht hi v _ _ hown c
  unfold Oper.wp
  simp only [List.length_nil] at hx
  simp [execOp, ho, resolve, invoke, builtin, hs, hx, hrun, Result.andThen]
  exact hK _ _ (h v w (by rw [List.append_nil]; exact hown) (Below.refl _ _))
 ·refine wpList_append_own w hgd s x t ho base e i (.int k 0) 1 bytes ht hi hz hsize hby rfl (by decide) v L.length _ hs hown ad M.length c (M.map fun (d : Nat) => Value.int k (d : Int)) hx (by simp) ?_ ?_ (by unfold maxLen; omega) (by omega) hbase ?_
  ·intro j u hj
   have hjl : j < M.length := by
    rcases Nat.lt_or_ge j M.length with h1 | h1
    ·exact h1
    ·rw [List.getElem?_eq_none (by simpa using h1)] at hj; cases hj
   obtain ⟨b, o', e1, _, hc⟩ := hR.spot (by omega)
   injection e1 with e1
   subst e1
   have h2 := hc j hjl
   have h3 : u = .int k (nth M j) := by
    rw [List.getElem?_map, List.getElem?_eq_getElem hjl] at hj
    simp at hj
    rw [← hj, nth_lt hjl]
   rw [h3, ← h2]
   unfold Addr.add
   split
   ·rename_i h0; subst h0; simp
   ·rfl
  ·intro u hu
   obtain ⟨d, _, rfl⟩ := List.mem_map.1 hu
   rfl
  ·intro v' w' h1 h2 _
   refine h v' w' ?_ ((Below.refl base w).grown h2 hbase (fun j hj => (World.ownsRow.lt hown j hj).1))
   show World.ownsRow _ _ _ _ _ _ _
   rw [List.length_append, List.map_append]
   exact h1
def Top (L : List Nat) : Prop := 0 < L.length → nth L (L.length - 1) ≠ 0
structure RqInv (b : Nat) (L Q : List Nat) (j r : Nat) : Prop where
 val : val4 (Q.drop j) * b + r = val4 (L.drop j)
 lt : r < b
 lim : Lim4 Q
theorem valB_drop4 (L : List Nat) (k : Nat) : val4 (L.drop k) = nth L k + 10000 * val4 (L.drop (k + 1)) := by
 rcases Nat.lt_or_ge k L.length with h | h
 ·exact valB_drop _ _ _ h
 ·rw [List.drop_eq_nil_of_le h, List.drop_eq_nil_of_le (by omega), nth_ge h]; rfl
theorem rq_step {b : Nat} {L Q : List Nat} {j r d r2 : Nat} (h : RqInv b L Q (j + 1) r) (hj : j < Q.length) (hd : d < 10000) (hr : r2 + b * d = nth L j + 10000 * r) (hlt : r2 < b) : RqInv b L (Q.set j d) j r2 := by
 refine ⟨?_, hlt, fun x hx => ?_⟩
 ·rw [valB_drop4 (Q.set j d) j, nth_set_eq hj, drop_set_low (by omega), valB_drop4 L j, ← h.val]
  generalize val4 (Q.drop (j + 1)) = v at *
  generalize nth L j = l at *
  clear h hj hd hlt
  grind
 ·rcases List.mem_or_eq_of_mem_set hx with h1 | h1
  ·exact h.lim x h1
  ·omega
theorem val4_lt_of_top {M : List Nat} {n : Nat} (hn : M.length = n) (h0 : 0 < n) (ht : Top M) : 10000 ^ (n - 1) ≤ val4 M := by
 have h1 := valB_take_succ 10000 M (n - 1) (by omega)
 rw [show n - 1 + 1 = n by omega, List.take_of_length_le (by omega)] at h1
 have h2 := ht (by omega)
 rw [hn] at h2
 have h3 : 10000 ^ (n - 1) * 1 ≤ 10000 ^ (n - 1) * nth M (n - 1) := Nat.mul_le_mul_left _ (by omega)
 unfold val4
 omega
theorem rq_start {L M : List Nat} {l n : Nat} (hL : Lim4 L) (hl : L.length = l) (hn : M.length = n) (h0 : 0 < n) (hnl : n ≤ l) (ht : Top M) :
  RqInv (val4 M) L (List.replicate (l - n + 1) 0) (l - n + 1) (val4 (L.drop (l - n + 1))) := by
 refine ⟨by rw [List.drop_eq_nil_of_le (by simp)]; simp [val4, valB], ?_, fun d hd => by have := (List.mem_replicate.1 hd).2; omega⟩
 have h1 : Lim4 (L.drop (l - n + 1)) := fun d hd => hL d (List.mem_of_mem_drop hd)
 have h2 := valB_lt h1
 rw [List.length_drop, hl, show l - (l - n + 1) = n - 1 by omega] at h2
 have h3 := val4_lt_of_top hn h0 ht
 unfold val4 at *
 omega
theorem rrow_take {w : World} {B c : Nat} {A : Option Addr} {R : List Nat} (h : Row .i64 w B A c R) (hl : Lim4 R) :
  ∃ T, T.length = trimN R R.length ∧ Row .i64 w B A c T ∧ Lim4 T ∧ Top T ∧ val4 T = val4 R := by
 have htl := trimN_le R R.length
 have el : (R.take (trimN R R.length)).length = trimN R R.length := by rw [List.length_take]; omega
 refine ⟨R.take (trimN R R.length), el, h.take _, fun d hd => hl d (List.mem_of_mem_take hd), ?_, ?_⟩
 ·unfold Top; rw [el]; intro h; rw [nth_take (by omega)]; exact trimN_top _ _ h
 ·rw [val4, trimN_val _ _ _ (Nat.le_refl _), List.take_of_length_le (Nat.le_refl _)]
theorem rcmp_val {w : World} {B : Nat} {A A' : Option Addr} {c c' : Nat} {L M : List Nat} (h1 : Row .i64 w B A c L) (h2 : Row .i64 w B A' c' M) (l1 : Lim4 L) (l2 : Lim4 M) (t1 : Top L) (t2 : Top M) : cmpL L M = cmpZ (val4 L) (val4 M) :=
 cmpL_val4 (n := false) (m := false) ⟨h1, l1, t1, fun h => absurd h Bool.false_ne_true⟩ ⟨h2, l2, t2, fun h => absurd h Bool.false_ne_true⟩
theorem len_le4 {L M : List Nat} (hL : Lim4 L) (hM : Top M) (h : val4 M ≤ val4 L) : M.length ≤ L.length := by
 rcases Nat.lt_or_ge L.length M.length with h1 | h1
 ·have := canon_lt4 hL hM h1; omega
 ·exact h1
theorem cmpZ_le0 {x y : Nat} (h : x ≤ y) : decide (cmpZ x y ≤ 0) = true := by unfold cmpZ; split <;> simp; omega
theorem cmpZ_gt0 {x y : Nat} (h : y < x) : decide (cmpZ x y ≤ 0) = false := by unfold cmpZ; rw [if_neg (by omega), if_neg (by omega)]; rfl
theorem blk_one4 (w : World) (f : Nat) : Blk .i64 3 (w.alloc (.cells #[.int .i64 f] 3)) w.heap.size [f] := by
 show _ = _
 rw [heap_alloc_new]; rfl
theorem len_T {T M : List Nat} {n : Nat} (hT : Top T) (hM : Lim4 M) (hn : M.length = n) (hv : val4 T < val4 M * (9999 + 1)) : T.length ≤ n + 1 := by
 rcases Nat.lt_or_ge (n + 1) T.length with h | h
 ·exfalso
  have h1 := val4_lt_of_top rfl (show 0 < T.length by omega) hT
  have h2 := valB_lt hM
  rw [hn] at h2
  have h3 : (10000 : Nat) ^ (n + 1) ≤ 10000 ^ (T.length - 1) := Nat.pow_le_pow_right (by omega) (by omega)
  rw [Nat.pow_succ] at h3
  unfold val4 at *
  omega
 ·exact h
theorem val4_cons (d : Nat) (R : List Nat) : val4 ([d] ++ R) = d + 10000 * val4 R := by simp [valB]
set_option maxRecDepth 20000 in
set_option maxHeartbeats 6400000 in
theorem rquo_long (A A' : Option Addr) (c c' n : Nat) (L M : List Nat) (w : World) (hl : L.length ≤ 100000) (hm : M.length = n) (hn0 : 0 < n) (hml : n ≤ L.length) (hL : Lim4 L) (hM : Lim4 M) (htM : Top M)
  (hR : Row .i64 w w.heap.size A c L) (hR' : Row .i64 w w.heap.size A' c' M) :
  Calls Tryz.prog 68 #[.slice A L.length c, .slice A' n c'] w fun e w' => ∃ A1 c1 Q A2 c2 R, e = .returned (.tuple #[.slice A1 (List.length Q) c1, .slice A2 (List.length R) c2]) ∧
   Row .i64 w' w'.heap.size A1 c1 Q ∧ Row .i64 w' w'.heap.size A2 c2 R ∧ Lim4 Q ∧ Lim4 R ∧ val4 Q * val4 M + val4 R = val4 L ∧ val4 R < val4 M ∧ List.length Q ≤ L.length ∧ List.length R ≤ 3 * L.length + 9 ∧ Below w.heap.size w w' := by
 obtain ⟨i0, hi, hz0, hz1, hz2⟩ := info_parts info3
 obtain ⟨b, o, rfl, hbB, hcs⟩ := hR.spot (by omega)
 have hst := rq_start hL rfl hm hn0 hml htM
 have hlc := hR.len
 generalize hl' : L.length = l at *
 have HL := Lib.hid hl'
 have HM := Lib.hid hm
 have HST := Lib.hid hst
 clear hl' hm hst
 obtain ⟨fr, hfr⟩ : ∃ fr, fr = l - n + 1 := ⟨_, rfl⟩
 have f1 : fr + n = l + 1 := by omega
 have f2 : (l : Int) - (n : Int) + 1 = (fr : Int) := by omega
 have f3 : (0 : Int) ≤ (fr : Int) := by omega
 have f4 : (fr : Int) ≤ (l : Int) := by omega
 have f5 : (l : Int) ≤ (c : Int) := by omega
 have HFR := Lib.hid hfr
 clear hfr
 have hrow0 : Row .i64 w w.heap.size (some ⟨b, o + fr, none⟩) (c - fr) (L.drop fr) := by
  refine ⟨by rw [List.length_drop, HL.out]; omega, fun _ => ⟨b, o + fr, rfl, hbB, Cells.drop hcs fr⟩⟩
 have hrow1 : l = fr → Row .i64 w w.heap.size (some ⟨b, o, none⟩) 0 (L.drop fr) := by
  intro h
  rw [List.drop_eq_nil_of_le (by rw [HL.out]; omega)]
  exact Row.nil _ _ _ _ _
 have hdl : (L.drop fr).length = l - fr := by rw [List.length_drop, HL.out]
 have HR0 := Lib.hid hrow0
 have HR1 := Lib.hid hrow1
 have HDL := Lib.hid hdl
 have HCS := Lib.hid hcs
 clear hrow0 hrow1 hdl hcs hR
 have hcase : (¬ c = fr ∧ ¬ c - fr = 0) ∨ (c = fr ∧ l = fr) := by omega
 rcases hcase with ⟨g1, g2⟩ | ⟨g1, g2⟩
 ·go_enter Tryz.func68, Tryz.ntmps68
  go_wp2_with (first
   | (refine wpList_make_zeros _ rfl (.tmp 25) (.tmp 25) 31 rfl 3 .i64 i0 8 Tryz.underlying31 hi hz0 hz1 hz2 .i64 .i64 _ _ fr rfl rfl (by omega) (by omega) (by omega) (by omega) ?_; intro w1 hb1 hB1 hs1)
   | (at_builtin; refine wpList_append_row rfl (.tmp 27) (.tmp 30) 31 rfl .i64 w1.heap.size 3 i0 8 Tryz.underlying31 hi hz0 hz1 hz2 (by omega) (.slice (some ⟨w1.heap.size, 0, none⟩) 0 0) [] rfl (Own.ofBlk (by show _ = _; rw [heap_alloc_new]; rfl) (Nat.le_refl _) (by simp)) (some ⟨b, o + fr, none⟩) (l - fr) (c - fr) (L.drop fr) HDL.out rfl ((HR0.out.below hB1).alloc (by omega) _) (by simp; omega) (by simp) ?_; intro v2 w2 ho2 hb2)
   | fail)
  have hlies := ho2.out.lies
  rw [List.nil_append] at hlies
  obtain ⟨A2, c2, rfl, hr2, -⟩ := hlies
  rw [HDL.out]
  obtain ⟨lf, hlf⟩ : ∃ lf, l - fr = lf := ⟨_, rfl⟩
  rw [hlf]
  have HLF := Lib.hid hlf
  clear hlf
  have hbQ := (hb1.out.alloc (.cells #[] 3)).below hb2 hb1.out.lt
  have hbw2 := (hB1.trans (Below.less ((Below.refl _ _).alloc (Nat.le_refl _) _) (by omega))).trans (Below.less hb2 (by omega))
  have HB2 := Lib.hid hbw2
  have hg2 : w.heap.size < w2.heap.size := hbQ.lt
  have HBQ := Lib.hid hbQ
  have HR2 := Lib.hid hr2
  have hln2 : (L.drop fr).length ≤ 3 * l + 9 := by rw [HDL.out]; omega
  clear ho2 hb2 hb1 hB1 hbQ hr2 hbw2 hs1
  go_loopw [8, 9] (fun rv iv wr => ∃ (j : Nat) (Q : List Nat) (A2 : Option Addr) (c2 : Nat) (R : List Nat), j ≤ fr ∧ iv = .int .i64 ((j : Int) - 1) ∧ rv = .slice A2 (List.length R) c2 ∧ Row .i64 wr wr.heap.size A2 c2 R ∧ Lim4 R ∧ List.length R ≤ 3 * l + 9 ∧ Blk .i64 3 wr w.heap.size Q ∧ Q.length = fr ∧ Hid (RqInv (val4 M) L Q j (val4 R)) ∧ Below w.heap.size w wr) (fun _ iv _ => (intOf iv + 1).toNat)
  case atStart => exact ⟨fr, _, A2, c2, L.drop fr, Nat.le_refl _, rfl, by rw [HDL.out, HLF.out], HR2.out, fun d hd => hL d (List.mem_of_mem_drop hd), hln2, HBQ.out, by simp, by have := HST.out; rw [← HFR.out] at this; exact this, HB2.out⟩
  case round =>
   obtain ⟨j, Q, A2, c2, R, hj, rfl, rfl, hrR, hlR, hnR, hbQ, hQl, hin, hbw⟩ := hrel
   have hlR' : ∃ lr, List.length R = lr := ⟨_, rfl⟩
   rcases Nat.eq_zero_or_pos j with rfl | hpos
   ·have htQ := rtrim_any (some ⟨w.heap.size, 0, none⟩) fr Q wr (w.heap.size + 1) (by omega) (Row.ofBlk hbQ (Nat.lt_succ_self _) (by omega))
    rw [hQl] at htQ
    have HTQ := Lib.hid htQ
    have HQL := Lib.hid hQl
    have HBQ9 := Lib.hid hbQ
    have HRR := Lib.hid hrR
    clear htQ hQl hbQ hrR hlR'
    go_wp2_with fail
    refine HTQ.out.mono ?_
    rintro e w9 ⟨rfl, rfl⟩
    go_wp2_with fail
    go_ret2
    obtain ⟨QT, r1, r2, r3, r4, r5⟩ := rrow_take (Row.ofBlk (B := wr.heap.size) (c := fr) HBQ9.out HBQ9.out.lt (by rw [HQL.out]; exact Nat.le_refl _)) hin.out.lim
    rw [HQL.out] at r1
    have hv := hin.out.val
    rw [List.drop_zero, List.drop_zero] at hv
    have t1 := trimN_le Q fr
    exact ⟨_, _, QT, _, _, R, by rw [r1]; rfl, r2, HRR.out, r3, hlR, by rw [r5]; exact hv, hin.out.lt, by omega, hnR, hbw⟩
   ·obtain ⟨i, rfl⟩ : ∃ i, j = i + 1 := ⟨j - 1, by omega⟩
    have hi1 : ((i + 1 : Nat) : Int) - 1 = i := by omega
    have hci := (hbw.cell (p := ⟨b, o + i, none⟩) (by exact hbB)).trans (HCS.out i (by rw [HL.out]; omega))
    have hli : i < l := by omega
    have hgq : w.heap.size < wr.heap.size := hbQ.lt
    have hlr9 : List.length R ≤ 3 * l + 9 := hnR
    have HQL := Lib.hid hQl
    rw [hi1]
    clear hi1 hQl
    go_wp2_with (first
     | (at_builtin; refine wpList_append_row rfl (.tmp 42) (.tmp 43) 31 rfl .i64 wr.heap.size 3 i0 8 Tryz.underlying31 hi hz0 hz1 hz2 (by omega) (.slice (some ⟨wr.heap.size, 0, none⟩) 1 1) [nth L i] rfl (Own.ofBlk (blk_one4 wr (nth L i)) (Nat.le_refl _) (by simp)) A2 (List.length R) c2 R rfl rfl (hrR.alloc (Nat.le_refl _) _) (by simp; omega) (by simp) ?_; intro v3 w3 ho3 hb3)
     | fail)
    obtain ⟨A3, c3, hv3, hr3, hl3⟩ := ho3.out.lies
    have hne3 : A3 ≠ none := by
     rintro rfl
     have := hr3.spot (by simp)
     obtain ⟨b9, o9, e9, -, -⟩ := this
     cases e9
    obtain ⟨g3, o3, rfl⟩ : ∃ g3 o3, A3 = some ⟨g3, o3, none⟩ := by
     obtain ⟨b9, o9, e9, -, -⟩ := hr3.spot (by simp)
     exact ⟨b9, o9, e9⟩
    have hg3 : wr.heap.size ≤ g3 := hl3 _ _ rfl
    have hlim3 : Lim4 ([nth L i] ++ R) := by
     intro d hd
     rcases List.mem_append.1 hd with h | h
     ·rw [List.mem_singleton] at h; subst h; exact nth_all hL (by omega) i
     ·exact hlR d h
    have hval3 := val4_cons (nth L i) R
    have hln3 : ([nth L i] ++ R).length ≤ 3 * l + 10 := by simp; omega
    have hbw3 : Below w.heap.size w w3 := hbw.trans (Below.less ((below_alloc_new _).trans hb3) (by omega))
    have hbQ3 := (hbQ.alloc (.cells #[.int .i64 (nth L i)] 3)).below hb3 hgq
    subst hv3
    obtain ⟨a9, ha9⟩ : ∃ a9, nth L i = a9 := ⟨_, rfl⟩
    have HVAL3 := Lib.hid hval3
    generalize [nth L i] ++ R = R3 at *
    clear ho3 hl3 hne3 hval3 ha9 hbQ hbw hb3 hrR
    have htr := rtrim_any (some ⟨g3, o3, none⟩) c3 R3 w3 w3.heap.size (by omega) hr3
    obtain ⟨T, t1, t2, t3, t4, t5⟩ := rrow_take hr3 hlim3
    rw [← t1] at htr
    have hTl := trimN_le R3 R3.length
    have HTR := Lib.hid htr
    have HT1 := Lib.hid t1
    have hTn : List.length T ≤ 3 * l + 10 := by omega
    clear htr t1 hTl hr3 hlim3
    generalize List.length R3 = n3 at *
    refine HTR.out.mono ?_
    rintro e w4 ⟨rfl, rfl⟩
    have HB3 := Lib.hid hbw3
    have HBQ3 := Lib.hid hbQ3
    have HRT := Lib.hid t2
    have HTV := Lib.hid t5
    have hMr := Lib.hid (hR'.below hbw3)
    have hs3 : w.heap.size ≤ w3.heap.size := hbw3.size
    have hgne : w.heap.size ≠ g3 := by omega
    have hs3' : w.heap.size < w3.heap.size := hbQ3.lt
    have hg3s : g3 < w3.heap.size ∨ List.length T = 0 := by
     rcases Nat.eq_zero_or_pos (List.length T) with h | h
     ·exact .inr h
     ·obtain ⟨b9, o9, e9, h9, -⟩ := t2.spot h
      injection e9 with e9
      injection e9 with e9
      subst e9
      exact .inl h9
    clear hbw3 hbQ3 t2 t5 HTR hci
    generalize hTn' : List.length T = nt at *
    have HTN := Lib.hid hTn'
    clear hTn'
    have hup := hin.out.lt
    have hTup : Hid (val4 T < val4 M * (9999 + 1)) := by
     show _ < _
     rw [HTV.out, HVAL3.out]
     have := nth_all hL (show 0 < 10000 by omega) i
     omega
    go_wp2_with fail
    go_loopw [10, 11] (fun lv hv wq => ∃ lo hi : Nat, lo ≤ hi ∧ hi ≤ 9999 ∧ lv = .int .i64 (lo : Int) ∧ hv = .int .i64 (hi : Int) ∧ Hid (val4 M * lo ≤ val4 T ∧ val4 T < val4 M * (hi + 1)) ∧ Below w3.heap.size w3 wq) (fun lv hv _ => (intOf hv - intOf lv).toNat)
    case atStart => exact ⟨0, 9999, by omega, by omega, rfl, rfl, ⟨by simp, hTup⟩, Below.refl _ _⟩
    case round =>
     obtain ⟨lo, hi', hlh, hh9, rfl, rfl, hbs, hbq⟩ := hrel
     by_cases hlt : lo < hi'
     ·obtain ⟨mid, hmid⟩ : ∃ mid, mid = (lo + hi' + 1) / 2 := ⟨_, rfl⟩
      have hm1 : ((lo : Int) + (hi' : Int) + 1) / 2 = (mid : Int) := by omega
      have hm2 : lo < mid := by omega
      have hm3 : mid ≤ hi' := by omega
      have HMID := Lib.hid hmid
      clear hmid
      have hmr : Row .i64 wr wr.heap.size A' c' M := ((hMr.out.more hs3).below hbq).more hbq.size
      have hTr : Row .i64 wr wr.heap.size (some ⟨g3, o3, none⟩) c3 T := (HRT.out.below hbq).more hbq.size
      have hmul := fun (W : World) (hb : Below wr.heap.size wr W) (hm : Row .i64 W W.heap.size (some ⟨wr.heap.size, 0, none⟩) 1 [mid]) => rmul2 A' (some ⟨wr.heap.size, 0, none⟩) c' 1 M [mid] W (by rw [HM.out]; omega) (by simp) hM (fun d hd => by rw [List.mem_singleton] at hd; omega) (hmr.up hb) hm
      rw [HM.out] at hmul
      have HMUL := Lib.hid hmul
      have HTr := Lib.hid hTr
      clear hmul hmr hTr
      go_wp2_with fail
      have hbm := blk_one4 wr mid
      refine (HMUL.out _ (below_alloc_new _) (Row.ofBlk hbm hbm.lt (by simp))).mono ?_
      rintro e w5 ⟨g5, c5, P5, rfl, k1, k2, k3, k4, k5, k6, k7⟩
      have hb5 : Below wr.heap.size wr w5 := (below_alloc_new _).trans (Below.less k6 (by simp))
      have hTr5 := HTr.out.up hb5
      have hcm := rcompare_any (some ⟨g5, 0, none⟩) (some ⟨g3, o3, none⟩) c5 c3 P5 T w5 (by simp at k5; omega) (by rw [HTN.out]; omega) k1 hTr5
      rw [rcmp_val k1 hTr5 k2 t3 k3 t4, k4, show val4 [mid] = mid by simp [valB], HTN.out] at hcm
      have HCM := Lib.hid hcm
      have HB5 := Lib.hid (below_then hbq hb5 hbq.size)
      clear hcm hb5 hTr5 k1 k2 k3 k4 k5 k6 k7 hbm
      generalize List.length P5 = n5 at *
      by_cases hle : val4 M * mid ≤ val4 T
      ·have hd := cmpZ_le0 hle
       have HLE := Lib.hid hle
       clear hle
       generalize cmpZ (val4 M * mid) (val4 T) = cz at *
       go_wp2_with fail
       refine HCM.out.mono ?_
       rintro e w6 ⟨rfl, nq, rfl⟩
       go_wp2_with fail
       go_roundw
       case rel => exact ⟨mid, hi', by omega, hh9, rfl, rfl, ⟨HLE.out, hbs.out.2⟩, below_drewN HB5.out _⟩
       case measure => simp [intOf]; omega
      ·have hd := cmpZ_gt0 (show val4 T < val4 M * mid by omega)
       have HLE := Lib.hid hle
       clear hle
       generalize cmpZ (val4 M * mid) (val4 T) = cz at *
       go_wp2_with fail
       refine HCM.out.mono ?_
       rintro e w6 ⟨rfl, nq, rfl⟩
       go_wp2_with fail
       go_roundw
       case rel => exact ⟨lo, mid - 1, by omega, by omega, rfl, by go_num, ⟨hbs.out.1, by rw [show mid - 1 + 1 = mid by omega]; exact Nat.lt_of_not_le HLE.out⟩, below_drewN HB5.out _⟩
       case measure => simp [intOf]; omega
     ·obtain rfl : lo = hi' := by omega
      have hbQr := HBQ3.out.below hbq hs3'
      have hcq := hbQr.cell i (by rw [HQL.out]; omega)
      have hfq := hbQr.frozen i
      have hbQs := hbQr.set_ i lo
      have hTs : Row .i64 (wr.setCell ⟨w.heap.size, i, none⟩ (.int .i64 lo)) wr.heap.size (some ⟨g3, o3, none⟩) c3 T := ((HRT.out.below hbq).more hbq.size).apart (by exact hgne) _
      have hbs2 : Below w.heap.size w (wr.setCell ⟨w.heap.size, i, none⟩ (.int .i64 lo)) := (HB3.out.trans (Below.less hbq hs3)).setCell (Nat.le_refl _) _
      have hszs : (wr.setCell ⟨w.heap.size, i, none⟩ (.int .i64 (lo : Int))).heap.size = wr.heap.size := setCell_size _ _ _
      have hMs := hR'.below hbs2
      have HBQS := Lib.hid hbQs
      have HTS := Lib.hid hTs
      have HBS2 := Lib.hid hbs2
      have HMS := Lib.hid hMs
      have hwrs : w.heap.size < wr.heap.size := hbQr.lt
      have HSZ := Lib.hid hszs
      clear hbQr hbQs hTs hbs2 hszs hMs hlt
      go_upto_region 17 with (fail)
      change Code.wp Tryz.prog _ _ _ (wr.setCell ⟨w.heap.size, i, none⟩ (.int .i64 lo))
      generalize wr.setCell ⟨w.heap.size, i, none⟩ (.int .i64 (lo : Int)) = ws at *
      clear hcq hfq
      have hbl := blk_one4 ws lo
      have hlo9 : Lim4 [lo] := fun d hd => by rw [List.mem_singleton] at hd; omega
      have htl := rtrim_any (some ⟨ws.heap.size, 0, none⟩) 1 [lo] (ws.alloc (.cells #[.int .i64 lo] 3)) (ws.heap.size + 1) (by simp) (Row.ofBlk hbl (Nat.lt_succ_self _) (by simp))
      obtain ⟨U, u1, u2, u3, u4, u5⟩ := rrow_take (Row.ofBlk (B := ws.heap.size + 1) (c := 1) hbl (Nat.lt_succ_self _) (by simp)) hlo9
      rw [← u1] at htl
      have hU1 : List.length U ≤ 1 := by rw [u1]; exact trimN_le _ _
      have huv : val4 U = lo := by rw [u5]; simp [valB]
      have hba := below_alloc_new (w := ws) (.cells #[.int .i64 lo] 3)
      have hsa : (ws.alloc (.cells #[.int .i64 (lo : Int)] 3)).heap.size = ws.heap.size + 1 := by simp
      rw [← hsa] at u2
      have hmul := rmul2 A' (some ⟨ws.heap.size, 0, none⟩) c' 1 M U (ws.alloc (.cells #[.int .i64 lo] 3)) (by rw [HM.out]; omega) (by omega) hM u3 (((HMS.out.more (by rw [HSZ.out]; omega)).below hba).more (by rw [hsa]; omega)) u2
      rw [HM.out, huv] at hmul
      have hTa : Row .i64 (ws.alloc (.cells #[.int .i64 lo] 3)) (ws.alloc (.cells #[.int .i64 (lo : Int)] 3)).heap.size (some ⟨g3, o3, none⟩) c3 T := (HTS.out.more (by rw [HSZ.out]; exact Nat.le_refl _)).up hba
      have HTL := Lib.hid htl
      have HMUL := Lib.hid hmul
      have HTA := Lib.hid hTa
      have HBA := Lib.hid hba
      have HSA := Lib.hid hsa
      clear htl hmul hTa hba u1 u2 u5 huv hbl hsa
      generalize List.length U = nu at *
      go_wp2_with fail
      refine HTL.out.mono ?_
      rintro e w6 ⟨rfl, rfl⟩
      go_wp2_with fail
      refine HMUL.out.mono ?_
      rintro e w7 ⟨g7, c7, P7, rfl, k1, k2, k3, k4, k5, k6, k7⟩
      have hT7 := HTA.out.up k6
      have hle7 : val4 P7 ≤ val4 T := by rw [k4]; exact hbs.out.1
      have hPT := len_le4 t3 k3 hle7
      have hsb := rsub2 (some ⟨g3, o3, none⟩) (some ⟨g7, 0, none⟩) c3 c7 T P7 w7 (by rw [HTN.out]; omega) hPT t3 k2 hle7 hT7 k1
      rw [HTN.out] at hsb
      have HSB := Lib.hid hsb
      have HP4 := Lib.hid k4
      have HPT := Lib.hid hPT
      have hb7 : Below w.heap.size w w7 := HBS2.out.trans (Below.less (HBA.out.trans (Below.less k6 (by rw [HSA.out]; omega))) (by rw [HSZ.out]; omega))
      have HB7 := Lib.hid hb7
      have hQ7 := (HBQS.out.below HBA.out (by rw [HSZ.out]; exact hwrs)).below k6 (by rw [HSA.out, HSZ.out]; omega)
      have HQ7 := Lib.hid hQ7
      clear hsb k1 k2 k3 k4 k5 k6 k7 hT7 hle7 hPT hb7 hQ7
      generalize List.length P7 = n7 at *
      go_wp2_with fail
      refine HSB.out.mono ?_
      rintro e w8 ⟨A8, c8, R8, rfl, m1, m2, m3, m4, m5⟩
      have HB8 := Lib.hid (below_then HB7.out m5 HB7.out.size)
      have HQ8 := Lib.hid (HQ7.out.below m5 HQ7.out.lt)
      have M1 := Lib.hid m1
      have M3 := Lib.hid m3
      have M4 := Lib.hid m4
      clear m1 m3 m4 m5
      go_wp2_with fail
      go_roundw
      case rel =>
       have hnT := len_T t4 hM HM.out hTup.out
       have e1 := HTN.out
       have e2 := HPT.out
       have e3 := M4.out
       have e4 := M3.out
       have e5 := hbs.out.2
       rw [HP4.out] at e4
       have e6 : val4 M * (lo + 1) = val4 M * lo + val4 M := by rw [Nat.mul_add, Nat.mul_one]
       rw [e6] at e5
       have e7 : val4 R8 + val4 M * lo = nth L i + 10000 * val4 R := by rw [e4, HTV.out, HVAL3.out]
       exact ⟨i, Q.set i lo, A8, c8, R8, by omega, rfl, rfl, M1.out, m2, by omega, HQ8.out, by rw [List.length_set]; exact HQL.out, rq_step hin.out (by rw [HQL.out]; omega) (by omega) e7 (by omega), HB8.out⟩
      case measure => simp [intOf]
 ·obtain rfl : fr = c := g1.symm
  have G2 := Lib.hid g2
  have hl0 : l - fr = 0 := by omega
  have HL0 := Lib.hid hl0
  clear g1 g2 hl0
  go_enter Tryz.func68, Tryz.ntmps68
  go_wp2_with (first
   | (refine wpList_make_zeros _ rfl (.tmp 25) (.tmp 25) 31 rfl 3 .i64 i0 8 Tryz.underlying31 hi hz0 hz1 hz2 .i64 .i64 _ _ fr rfl rfl (by omega) (by omega) (by omega) (by omega) ?_; intro w1 hb1 hB1 hs1)
   | fail)
  change Code.wp Tryz.prog _ _ _ (w1.alloc (.cells #[] 3))
  have hdn : L.drop fr = [] := List.eq_nil_of_length_eq_zero (by rw [HDL.out]; exact HL0.out)
  have hr2 : Row .i64 (w1.alloc (.cells #[] 3)) (w1.alloc (.cells #[] 3)).heap.size (some ⟨w1.heap.size, 0, none⟩) 0 (L.drop fr) := by rw [hdn]; exact Row.nil _ _ _ _ _
  have hbQ := hb1.out.alloc (.cells #[] 3)
  have hbw2 : Below w.heap.size w (w1.alloc (.cells #[] 3)) := hB1.trans ((Below.refl _ _).alloc (by omega) _)
  generalize w1.alloc (.cells #[] 3) = w2 at *
  have HB2 := Lib.hid hbw2
  have hg2 : w.heap.size < w2.heap.size := hbQ.lt
  have HBQ := Lib.hid hbQ
  have HR2 := Lib.hid hr2
  have hln2 : (L.drop fr).length ≤ 3 * l + 9 := by rw [HDL.out]; omega
  clear hb1 hB1 hbQ hr2 hbw2 hs1 hdn
  go_loopw [8, 9] (fun rv iv wr => ∃ (j : Nat) (Q : List Nat) (A2 : Option Addr) (c2 : Nat) (R : List Nat), j ≤ fr ∧ iv = .int .i64 ((j : Int) - 1) ∧ rv = .slice A2 (List.length R) c2 ∧ Row .i64 wr wr.heap.size A2 c2 R ∧ Lim4 R ∧ List.length R ≤ 3 * l + 9 ∧ Blk .i64 3 wr w.heap.size Q ∧ Q.length = fr ∧ Hid (RqInv (val4 M) L Q j (val4 R)) ∧ Below w.heap.size w wr) (fun _ iv _ => (intOf iv + 1).toNat)
  case atStart => exact ⟨fr, _, some ⟨w1.heap.size, 0, none⟩, 0, L.drop fr, Nat.le_refl _, rfl, by rw [HDL.out, HL0.out], HR2.out, fun d hd => hL d (List.mem_of_mem_drop hd), hln2, HBQ.out, by simp, by have := HST.out; rw [← HFR.out] at this; exact this, HB2.out⟩
  case round =>
   obtain ⟨j, Q, A2, c2, R, hj, rfl, rfl, hrR, hlR, hnR, hbQ, hQl, hin, hbw⟩ := hrel
   have hlR' : ∃ lr, List.length R = lr := ⟨_, rfl⟩
   rcases Nat.eq_zero_or_pos j with rfl | hpos
   ·have htQ := rtrim_any (some ⟨w.heap.size, 0, none⟩) fr Q wr (w.heap.size + 1) (by omega) (Row.ofBlk hbQ (Nat.lt_succ_self _) (by omega))
    rw [hQl] at htQ
    have HTQ := Lib.hid htQ
    have HQL := Lib.hid hQl
    have HBQ9 := Lib.hid hbQ
    have HRR := Lib.hid hrR
    clear htQ hQl hbQ hrR hlR'
    go_wp2_with fail
    refine HTQ.out.mono ?_
    rintro e w9 ⟨rfl, rfl⟩
    go_wp2_with fail
    go_ret2
    obtain ⟨QT, r1, r2, r3, r4, r5⟩ := rrow_take (Row.ofBlk (B := wr.heap.size) (c := fr) HBQ9.out HBQ9.out.lt (by rw [HQL.out]; exact Nat.le_refl _)) hin.out.lim
    rw [HQL.out] at r1
    have hv := hin.out.val
    rw [List.drop_zero, List.drop_zero] at hv
    have t1 := trimN_le Q fr
    exact ⟨_, _, QT, _, _, R, by rw [r1]; rfl, r2, HRR.out, r3, hlR, by rw [r5]; exact hv, hin.out.lt, by omega, hnR, hbw⟩
   ·obtain ⟨i, rfl⟩ : ∃ i, j = i + 1 := ⟨j - 1, by omega⟩
    have hi1 : ((i + 1 : Nat) : Int) - 1 = i := by omega
    have hci := (hbw.cell (p := ⟨b, o + i, none⟩) (by exact hbB)).trans (HCS.out i (by rw [HL.out]; omega))
    have hli : i < l := by omega
    have hgq : w.heap.size < wr.heap.size := hbQ.lt
    have hlr9 : List.length R ≤ 3 * l + 9 := hnR
    have HQL := Lib.hid hQl
    rw [hi1]
    clear hi1 hQl
    go_wp2_with (first
     | (at_builtin; refine wpList_append_row rfl (.tmp 42) (.tmp 43) 31 rfl .i64 wr.heap.size 3 i0 8 Tryz.underlying31 hi hz0 hz1 hz2 (by omega) (.slice (some ⟨wr.heap.size, 0, none⟩) 1 1) [nth L i] rfl (Own.ofBlk (blk_one4 wr (nth L i)) (Nat.le_refl _) (by simp)) A2 (List.length R) c2 R rfl rfl (hrR.alloc (Nat.le_refl _) _) (by simp; omega) (by simp) ?_; intro v3 w3 ho3 hb3)
     | fail)
    obtain ⟨A3, c3, hv3, hr3, hl3⟩ := ho3.out.lies
    have hne3 : A3 ≠ none := by
     rintro rfl
     have := hr3.spot (by simp)
     obtain ⟨b9, o9, e9, -, -⟩ := this
     cases e9
    obtain ⟨g3, o3, rfl⟩ : ∃ g3 o3, A3 = some ⟨g3, o3, none⟩ := by
     obtain ⟨b9, o9, e9, -, -⟩ := hr3.spot (by simp)
     exact ⟨b9, o9, e9⟩
    have hg3 : wr.heap.size ≤ g3 := hl3 _ _ rfl
    have hlim3 : Lim4 ([nth L i] ++ R) := by
     intro d hd
     rcases List.mem_append.1 hd with h | h
     ·rw [List.mem_singleton] at h; subst h; exact nth_all hL (by omega) i
     ·exact hlR d h
    have hval3 := val4_cons (nth L i) R
    have hln3 : ([nth L i] ++ R).length ≤ 3 * l + 10 := by simp; omega
    have hbw3 : Below w.heap.size w w3 := hbw.trans (Below.less ((below_alloc_new _).trans hb3) (by omega))
    have hbQ3 := (hbQ.alloc (.cells #[.int .i64 (nth L i)] 3)).below hb3 hgq
    subst hv3
    obtain ⟨a9, ha9⟩ : ∃ a9, nth L i = a9 := ⟨_, rfl⟩
    have HVAL3 := Lib.hid hval3
    generalize [nth L i] ++ R = R3 at *
    clear ho3 hl3 hne3 hval3 ha9 hbQ hbw hb3 hrR
    have htr := rtrim_any (some ⟨g3, o3, none⟩) c3 R3 w3 w3.heap.size (by omega) hr3
    obtain ⟨T, t1, t2, t3, t4, t5⟩ := rrow_take hr3 hlim3
    rw [← t1] at htr
    have hTl := trimN_le R3 R3.length
    have HTR := Lib.hid htr
    have HT1 := Lib.hid t1
    have hTn : List.length T ≤ 3 * l + 10 := by omega
    clear htr t1 hTl hr3 hlim3
    generalize List.length R3 = n3 at *
    refine HTR.out.mono ?_
    rintro e w4 ⟨rfl, rfl⟩
    have HB3 := Lib.hid hbw3
    have HBQ3 := Lib.hid hbQ3
    have HRT := Lib.hid t2
    have HTV := Lib.hid t5
    have hMr := Lib.hid (hR'.below hbw3)
    have hs3 : w.heap.size ≤ w3.heap.size := hbw3.size
    have hgne : w.heap.size ≠ g3 := by omega
    have hs3' : w.heap.size < w3.heap.size := hbQ3.lt
    have hg3s : g3 < w3.heap.size ∨ List.length T = 0 := by
     rcases Nat.eq_zero_or_pos (List.length T) with h | h
     ·exact .inr h
     ·obtain ⟨b9, o9, e9, h9, -⟩ := t2.spot h
      injection e9 with e9
      injection e9 with e9
      subst e9
      exact .inl h9
    clear hbw3 hbQ3 t2 t5 HTR hci
    generalize hTn' : List.length T = nt at *
    have HTN := Lib.hid hTn'
    clear hTn'
    have hup := hin.out.lt
    have hTup : Hid (val4 T < val4 M * (9999 + 1)) := by
     show _ < _
     rw [HTV.out, HVAL3.out]
     have := nth_all hL (show 0 < 10000 by omega) i
     omega
    go_wp2_with fail
    go_loopw [10, 11] (fun lv hv wq => ∃ lo hi : Nat, lo ≤ hi ∧ hi ≤ 9999 ∧ lv = .int .i64 (lo : Int) ∧ hv = .int .i64 (hi : Int) ∧ Hid (val4 M * lo ≤ val4 T ∧ val4 T < val4 M * (hi + 1)) ∧ Below w3.heap.size w3 wq) (fun lv hv _ => (intOf hv - intOf lv).toNat)
    case atStart => exact ⟨0, 9999, by omega, by omega, rfl, rfl, ⟨by simp, hTup⟩, Below.refl _ _⟩
    case round =>
     obtain ⟨lo, hi', hlh, hh9, rfl, rfl, hbs, hbq⟩ := hrel
     by_cases hlt : lo < hi'
     ·obtain ⟨mid, hmid⟩ : ∃ mid, mid = (lo + hi' + 1) / 2 := ⟨_, rfl⟩
      have hm1 : ((lo : Int) + (hi' : Int) + 1) / 2 = (mid : Int) := by omega
      have hm2 : lo < mid := by omega
      have hm3 : mid ≤ hi' := by omega
      have HMID := Lib.hid hmid
      clear hmid
      have hmr : Row .i64 wr wr.heap.size A' c' M := ((hMr.out.more hs3).below hbq).more hbq.size
      have hTr : Row .i64 wr wr.heap.size (some ⟨g3, o3, none⟩) c3 T := (HRT.out.below hbq).more hbq.size
      have hmul := fun (W : World) (hb : Below wr.heap.size wr W) (hm : Row .i64 W W.heap.size (some ⟨wr.heap.size, 0, none⟩) 1 [mid]) => rmul2 A' (some ⟨wr.heap.size, 0, none⟩) c' 1 M [mid] W (by rw [HM.out]; omega) (by simp) hM (fun d hd => by rw [List.mem_singleton] at hd; omega) (hmr.up hb) hm
      rw [HM.out] at hmul
      have HMUL := Lib.hid hmul
      have HTr := Lib.hid hTr
      clear hmul hmr hTr
      go_wp2_with fail
      have hbm := blk_one4 wr mid
      refine (HMUL.out _ (below_alloc_new _) (Row.ofBlk hbm hbm.lt (by simp))).mono ?_
      rintro e w5 ⟨g5, c5, P5, rfl, k1, k2, k3, k4, k5, k6, k7⟩
      have hb5 : Below wr.heap.size wr w5 := (below_alloc_new _).trans (Below.less k6 (by simp))
      have hTr5 := HTr.out.up hb5
      have hcm := rcompare_any (some ⟨g5, 0, none⟩) (some ⟨g3, o3, none⟩) c5 c3 P5 T w5 (by simp at k5; omega) (by rw [HTN.out]; omega) k1 hTr5
      rw [rcmp_val k1 hTr5 k2 t3 k3 t4, k4, show val4 [mid] = mid by simp [valB], HTN.out] at hcm
      have HCM := Lib.hid hcm
      have HB5 := Lib.hid (below_then hbq hb5 hbq.size)
      clear hcm hb5 hTr5 k1 k2 k3 k4 k5 k6 k7 hbm
      generalize List.length P5 = n5 at *
      by_cases hle : val4 M * mid ≤ val4 T
      ·have hd := cmpZ_le0 hle
       have HLE := Lib.hid hle
       clear hle
       generalize cmpZ (val4 M * mid) (val4 T) = cz at *
       go_wp2_with fail
       refine HCM.out.mono ?_
       rintro e w6 ⟨rfl, nq, rfl⟩
       go_wp2_with fail
       go_roundw
       case rel => exact ⟨mid, hi', by omega, hh9, rfl, rfl, ⟨HLE.out, hbs.out.2⟩, below_drewN HB5.out _⟩
       case measure => simp [intOf]; omega
      ·have hd := cmpZ_gt0 (show val4 T < val4 M * mid by omega)
       have HLE := Lib.hid hle
       clear hle
       generalize cmpZ (val4 M * mid) (val4 T) = cz at *
       go_wp2_with fail
       refine HCM.out.mono ?_
       rintro e w6 ⟨rfl, nq, rfl⟩
       go_wp2_with fail
       go_roundw
       case rel => exact ⟨lo, mid - 1, by omega, by omega, rfl, by go_num, ⟨hbs.out.1, by rw [show mid - 1 + 1 = mid by omega]; exact Nat.lt_of_not_le HLE.out⟩, below_drewN HB5.out _⟩
       case measure => simp [intOf]; omega
     ·obtain rfl : lo = hi' := by omega
      have hbQr := HBQ3.out.below hbq hs3'
      have hcq := hbQr.cell i (by rw [HQL.out]; omega)
      have hfq := hbQr.frozen i
      have hbQs := hbQr.set_ i lo
      have hTs : Row .i64 (wr.setCell ⟨w.heap.size, i, none⟩ (.int .i64 lo)) wr.heap.size (some ⟨g3, o3, none⟩) c3 T := ((HRT.out.below hbq).more hbq.size).apart (by exact hgne) _
      have hbs2 : Below w.heap.size w (wr.setCell ⟨w.heap.size, i, none⟩ (.int .i64 lo)) := (HB3.out.trans (Below.less hbq hs3)).setCell (Nat.le_refl _) _
      have hszs : (wr.setCell ⟨w.heap.size, i, none⟩ (.int .i64 (lo : Int))).heap.size = wr.heap.size := setCell_size _ _ _
      have hMs := hR'.below hbs2
      have HBQS := Lib.hid hbQs
      have HTS := Lib.hid hTs
      have HBS2 := Lib.hid hbs2
      have HMS := Lib.hid hMs
      have hwrs : w.heap.size < wr.heap.size := hbQr.lt
      have HSZ := Lib.hid hszs
      clear hbQr hbQs hTs hbs2 hszs hMs hlt
      go_upto_region 17 with (fail)
      change Code.wp Tryz.prog _ _ _ (wr.setCell ⟨w.heap.size, i, none⟩ (.int .i64 lo))
      generalize wr.setCell ⟨w.heap.size, i, none⟩ (.int .i64 (lo : Int)) = ws at *
      clear hcq hfq
      have hbl := blk_one4 ws lo
      have hlo9 : Lim4 [lo] := fun d hd => by rw [List.mem_singleton] at hd; omega
      have htl := rtrim_any (some ⟨ws.heap.size, 0, none⟩) 1 [lo] (ws.alloc (.cells #[.int .i64 lo] 3)) (ws.heap.size + 1) (by simp) (Row.ofBlk hbl (Nat.lt_succ_self _) (by simp))
      obtain ⟨U, u1, u2, u3, u4, u5⟩ := rrow_take (Row.ofBlk (B := ws.heap.size + 1) (c := 1) hbl (Nat.lt_succ_self _) (by simp)) hlo9
      rw [← u1] at htl
      have hU1 : List.length U ≤ 1 := by rw [u1]; exact trimN_le _ _
      have huv : val4 U = lo := by rw [u5]; simp [valB]
      have hba := below_alloc_new (w := ws) (.cells #[.int .i64 lo] 3)
      have hsa : (ws.alloc (.cells #[.int .i64 (lo : Int)] 3)).heap.size = ws.heap.size + 1 := by simp
      rw [← hsa] at u2
      have hmul := rmul2 A' (some ⟨ws.heap.size, 0, none⟩) c' 1 M U (ws.alloc (.cells #[.int .i64 lo] 3)) (by rw [HM.out]; omega) (by omega) hM u3 (((HMS.out.more (by rw [HSZ.out]; omega)).below hba).more (by rw [hsa]; omega)) u2
      rw [HM.out, huv] at hmul
      have hTa : Row .i64 (ws.alloc (.cells #[.int .i64 lo] 3)) (ws.alloc (.cells #[.int .i64 (lo : Int)] 3)).heap.size (some ⟨g3, o3, none⟩) c3 T := (HTS.out.more (by rw [HSZ.out]; exact Nat.le_refl _)).up hba
      have HTL := Lib.hid htl
      have HMUL := Lib.hid hmul
      have HTA := Lib.hid hTa
      have HBA := Lib.hid hba
      have HSA := Lib.hid hsa
      clear htl hmul hTa hba u1 u2 u5 huv hbl hsa
      generalize List.length U = nu at *
      go_wp2_with fail
      refine HTL.out.mono ?_
      rintro e w6 ⟨rfl, rfl⟩
      go_wp2_with fail
      refine HMUL.out.mono ?_
      rintro e w7 ⟨g7, c7, P7, rfl, k1, k2, k3, k4, k5, k6, k7⟩
      have hT7 := HTA.out.up k6
      have hle7 : val4 P7 ≤ val4 T := by rw [k4]; exact hbs.out.1
      have hPT := len_le4 t3 k3 hle7
      have hsb := rsub2 (some ⟨g3, o3, none⟩) (some ⟨g7, 0, none⟩) c3 c7 T P7 w7 (by rw [HTN.out]; omega) hPT t3 k2 hle7 hT7 k1
      rw [HTN.out] at hsb
      have HSB := Lib.hid hsb
      have HP4 := Lib.hid k4
      have HPT := Lib.hid hPT
      have hb7 : Below w.heap.size w w7 := HBS2.out.trans (Below.less (HBA.out.trans (Below.less k6 (by rw [HSA.out]; omega))) (by rw [HSZ.out]; omega))
      have HB7 := Lib.hid hb7
      have hQ7 := (HBQS.out.below HBA.out (by rw [HSZ.out]; exact hwrs)).below k6 (by rw [HSA.out, HSZ.out]; omega)
      have HQ7 := Lib.hid hQ7
      clear hsb k1 k2 k3 k4 k5 k6 k7 hT7 hle7 hPT hb7 hQ7
      generalize List.length P7 = n7 at *
      go_wp2_with fail
      refine HSB.out.mono ?_
      rintro e w8 ⟨A8, c8, R8, rfl, m1, m2, m3, m4, m5⟩
      have HB8 := Lib.hid (below_then HB7.out m5 HB7.out.size)
      have HQ8 := Lib.hid (HQ7.out.below m5 HQ7.out.lt)
      have M1 := Lib.hid m1
      have M3 := Lib.hid m3
      have M4 := Lib.hid m4
      clear m1 m3 m4 m5
      go_wp2_with fail
      go_roundw
      case rel =>
       have hnT := len_T t4 hM HM.out hTup.out
       have e1 := HTN.out
       have e2 := HPT.out
       have e3 := M4.out
       have e4 := M3.out
       have e5 := hbs.out.2
       rw [HP4.out] at e4
       have e6 : val4 M * (lo + 1) = val4 M * lo + val4 M := by rw [Nat.mul_add, Nat.mul_one]
       rw [e6] at e5
       have e7 : val4 R8 + val4 M * lo = nth L i + 10000 * val4 R := by rw [e4, HTV.out, HVAL3.out]
       exact ⟨i, Q.set i lo, A8, c8, R8, by omega, rfl, rfl, M1.out, m2, by omega, HQ8.out, by rw [List.length_set]; exact HQL.out, rq_step hin.out (by rw [HQL.out]; omega) (by omega) e7 (by omega), HB8.out⟩
      case measure => simp [intOf]
set_option maxHeartbeats 6400000
set_option maxRecDepth 20000
def RqPost (L M : List Nat) (w : World) (e : Ending) (w' : World) : Prop := ∃ A1 c1 Q A2 c2 R, e = .returned (.tuple #[.slice A1 (List.length Q) c1, .slice A2 (List.length R) c2]) ∧
 Row .i64 w' w'.heap.size A1 c1 Q ∧ Row .i64 w' w'.heap.size A2 c2 R ∧ Lim4 Q ∧ Lim4 R ∧ val4 Q * val4 M + val4 R = val4 L ∧ val4 R < val4 M ∧ List.length Q ≤ L.length ∧ List.length R ≤ 3 * L.length + 9 ∧ Below w.heap.size w w'
theorem rquo_any (A A' : Option Addr) (c c' : Nat) (L M : List Nat) (w : World) (hl : L.length ≤ 100000) (_hml : M.length ≤ 100000) (hn0 : 0 < M.length) (hL : Lim4 L) (hM : Lim4 M) (htM : Top M)
  (hR : Row .i64 w w.heap.size A c L) (hR' : Row .i64 w w.heap.size A' c' M) :
  Calls Tryz.prog 68 #[.slice A L.length c, .slice A' M.length c'] w (RqPost L M w) := by
 rcases Nat.lt_or_ge L.length M.length with h | h
 ·have hv := canon_lt4 hL htM h
  have hfin : ∀ W, Below w.heap.size w W → RqPost L M w (.returned (.tuple #[.slice none 0 0, .slice A L.length c])) W := fun W hb =>
   ⟨none, 0, [], A, c, L, rfl, Row.nil _ _ _ _ _, (hR.below hb).more hb.size, fun _ h => absurd h (List.not_mem_nil), hL, by simp [valB], hv, by simp, by omega, hb⟩
  have HF := Lib.hid hfin
  clear hfin hv
  generalize L.length = l at *
  generalize M.length = m at *
  go_enter Tryz.func68, Tryz.ntmps68
  go_wp2
  go_ret2
  exact HF.out _ (Below.refl _ _)
 ·exact rquo_long A A' c c' M.length L M w hl rfl hn0 h hL hM htM hR hR'
theorem rsigned_int (neg : Bool) (A : Option Addr) (c : Nat) (R : List Nat) (w : World) (hn : R.length ≤ 4000000) (hlim : Lim4 R) (hR : Row .i64 w w.heap.size A c R) :
  Calls Tryz.prog 43 #[.bool neg, .slice A R.length c] w fun e w' => ∃ T, e = .returned (.agg #[.bool (neg && decide (0 < List.length T)), .slice A (List.length T) c]) ∧ RefR w' w'.heap.size (neg && decide (0 < List.length T)) A c T ∧
   zR (neg && decide (0 < List.length T)) T = (if neg then -(val4 R : Int) else val4 R) ∧ List.length T ≤ R.length ∧ Below w.heap.size w w' := by
 refine (rsigned_pack neg A c R w (Nat.le_refl _) hn hlim hR).mono ?_
 rintro e w' ⟨T, rfl, hr, hl4, htop, hv, hl, hb⟩
 refine ⟨T, rfl, ⟨hr, hl4, htop, fun h0 h1 => by rw [h1] at h0; simp at h0⟩, ?_, hl, hb⟩
 unfold zR
 rw [← hv]
 cases neg
 ·simp
 ·rcases Nat.eq_zero_or_pos (List.length T) with h | h
  ·have : T = [] := List.eq_nil_of_length_eq_zero h
   subst this
   simp [valB]
  ·simp [h]
theorem rq_final {w w4 W : World} {p0 p1 p2 p3 : Value} {k1 k2 : Bool} {A1 A2 : Option Addr} {c1 c2 : Nat} {Q R : List Nat} (hS : St w w4 p0 p1 p2 p3 (.bool false) (.slice none 0 0) (.bool false) (.slice none 0 0))
  (h1 : RefR w4 w4.heap.size k1 A1 c1 Q) (h2 : RefR w4 w4.heap.size k2 A2 c2 R) {u1 v1 u2 v2 : Value}
  (hW : W = setPair (setPair w4 (w.heap.size + 1 + 1) u1 v1) (w.heap.size + 1 + 1 + 1) u2 v2 ∨ W = setPair (setPair w4 (w.heap.size + 1 + 1 + 1) u2 v2) (w.heap.size + 1 + 1) u1 v1) :
  RefR W W.heap.size k1 A1 c1 Q ∧ RefR W W.heap.size k2 A2 c2 R ∧ Below w.heap.size w W := by
 rcases hW with rfl | rfl
 ·have hS2 := hS.s2 u1 v1
  rw [setPair_size, setPair_size]
  exact ⟨RefR.pair hS2.b3 (RefR.pair hS.b2 h1 u1 v1) u2 v2, RefR.pair hS2.b3 (RefR.pair hS.b2 h2 u1 v1) u2 v2, (hS2.s3 u2 v2).bw⟩
 ·have hS2 := hS.s3 u2 v2
  rw [setPair_size, setPair_size]
  exact ⟨RefR.pair hS2.b2 (RefR.pair hS.b3 h1 u2 v2) u1 v1, RefR.pair hS2.b2 (RefR.pair hS.b3 h2 u2 v2) u1 v1, (hS2.s2 u1 v1).bw⟩
def RqrPost (x y : Int) (l : Nat) (w : World) (e : Ending) (w' : World) : Prop := ∃ k1 A1 c1 Q k2 A2 c2 R, e = .returned (.tuple #[.agg #[.bool k1, .slice A1 (List.length Q) c1], .agg #[.bool k2, .slice A2 (List.length R) c2], .int .i64 0]) ∧
 RefR w' w'.heap.size k1 A1 c1 Q ∧ RefR w' w'.heap.size k2 A2 c2 R ∧ zR k1 Q = Int.tdiv x y ∧ zR k2 R = Int.tmod x y ∧ List.length Q ≤ l ∧ List.length R ≤ 3 * l + 9 ∧ Below w.heap.size w w'
theorem rqr_post {x y : Int} {l : Nat} {w W : World} {k1 k2 : Bool} {A1 A2 : Option Addr} {c1 c2 : Nat} {Q R : List Nat} (h : RefR W W.heap.size k1 A1 c1 Q ∧ RefR W W.heap.size k2 A2 c2 R ∧ Below w.heap.size w W)
  (h1 : zR k1 Q = Int.tdiv x y) (h2 : zR k2 R = Int.tmod x y) (h3 : Q.length ≤ l) (h4 : R.length ≤ 3 * l + 9) :
  RqrPost x y l w (.returned (.tuple #[.agg #[.bool k1, .slice A1 Q.length c1], .agg #[.bool k2, .slice A2 R.length c2], .int .i64 0])) W :=
 ⟨k1, A1, c1, Q, k2, A2, c2, R, rfl, h.1, h.2.1, h1, h2, h3, h4, h.2.2⟩
theorem rquoRem_pos (n m : Bool) (A A' : Option Addr) (c c' : Nat) (L M : List Nat) (w : World) (hl : L.length ≤ 100000) (hml : M.length ≤ 100000) (hm0 : 0 < M.length)
  (hL : RefR w w.heap.size n A c L) (hM : RefR w w.heap.size m A' c' M) :
  Calls Tryz.prog 73 #[.agg #[.bool n, .slice A L.length c], .agg #[.bool m, .slice A' M.length c']] w (RqrPost (zR n L) (zR m M) L.length w) := by
 have F := four_boxes w (.bool n) (.slice A L.length c) (.bool m) (.slice A' M.length c') (.bool false) (.slice none 0 0) (.bool false) (.slice none 0 0) 33 33 33 33
 have hdv := fun W h1 h2 => rquo_any A A' c c' L M W hl hml hm0 hL.lim hM.lim hM.top h1 h2
 have HDV := Lib.hid hdv
 have hsg := fun W => rsign_any m A' c' M W hM.sgn
 have HSG := Lib.hid hsg
 have hsn : (sgnI m M == 0) = false := by
  rw [beq_eq_false_iff_ne]
  unfold sgnI
  cases m
  ·rw [if_neg (by simp), if_neg (by omega)]; omega
  ·simp
 clear hdv hsg
 generalize hl' : L.length = l at *
 generalize hm' : M.length = l2 at *
 have HLL := Lib.hid hl'
 have HML := Lib.hid hm'
 clear hl' hm'
 go_enter Tryz.func73, Tryz.ntmps73
 go_upto_region 1 with (fail)
 change Code.wp Tryz.prog _ _ _ ((((w.alloc (.cells #[.bool n, .slice A l c] 33)).alloc (.cells #[.bool m, .slice A' l2 c'] 33)).alloc (.cells #[.bool false, .slice none 0 0] 33)).alloc (.cells #[.bool false, .slice none 0 0] 33))
 generalize (((w.alloc (.cells #[.bool n, .slice A l c] 33)).alloc (.cells #[.bool m, .slice A' l2 c'] 33)).alloc (.cells #[.bool false, .slice none 0 0] 33)).alloc (.cells #[.bool false, .slice none 0 0] 33) = W0 at *
 obtain ⟨b0, b1, b2, b3, hsz, hbw⟩ := F
 have S0 : St w W0 _ _ _ _ _ _ _ _ := ⟨b0, b1, b2, b3, hbw, by omega⟩
 have x2 := b1.c0
 have x3 := b1.c1
 clear b0 b1 b2 b3 hsz hbw
 have HS0 := Lib.hid S0
 clear S0
 go_wp2_with fail
 refine (HSG.out _).mono ?_
 rintro e w0 ⟨rfl, hb0⟩
 have S1 := HS0.out.call hb0
 have x0 := S1.b0.c0
 have x1 := S1.b0.c1
 have x4 := S1.b1.c0
 have x5 := S1.b1.c1
 have rL := hL.row.up S1.bw
 have rM := hM.row.up S1.bw
 have HS1 := Lib.hid S1
 clear x2 x3 hb0 S1
 generalize sgnI m M = sg at *
 go_wp2_with fail
 refine (HDV.out w0 rL rM).mono ?_
 rintro e w1 ⟨A1, c1, Q, A2, c2, R, rfl, rQ, rR, lQ, lR, hv, hlt, hlq, hlr, hb1⟩
 rw [HLL.out] at hlq hlr
 have S2 := HS1.out.call hb1
 clear x0 x1 x4 x5 rL rM hsn
 have hn1 : ¬ w.heap.size + 1 + 1 = w.heap.size := by omega
 have hn2 : ¬ w.heap.size + 1 + 1 + 1 = w.heap.size := by omega
 have hn3 : ¬ w.heap.size + 1 + 1 = w.heap.size + 1 := by omega
 have hn4 : ¬ w.heap.size + 1 + 1 + 1 = w.heap.size + 1 := by omega
 have hn5 : ¬ w.heap.size + 1 + 1 + 1 = w.heap.size + 1 + 1 := by omega
 have hn6 : ¬ w.heap.size + 1 + 1 = w.heap.size + 1 + 1 + 1 := by omega
 have x0 := S2.b0.c0
 have x1 := S2.b0.c1
 have x2 := S2.b1.c0
 have x3 := S2.b1.c1
 have y0 := S2.b2.c0
 have y1 := S2.b2.c1
 have y2 := S2.b3.c0
 have y3 := S2.b3.c1
 have z0 := S2.b2.f0
 have z1 := S2.b2.f1
 have z2 := S2.b3.f0
 have z3 := S2.b3.f1
 have HS2 := Lib.hid S2
 have hz := tdiv_sign n m (val4 L) (val4 M) (val4 Q) (val4 R) hv hlt
 have hq1 := fun (V : World) (hb : Below w1.heap.size w1 V) => rsigned_int (!(n == m)) A1 c1 Q V (by omega) lQ (rQ.up hb)
 have hq2 := fun (V : World) (hb : Below w1.heap.size w1 V) => rsigned_int n A2 c2 R V (by omega) lR (rR.up hb)
 have HQ1 := Lib.hid hq1
 have HQ2 := Lib.hid hq2
 have HZ := Lib.hid hz
 have HC := Lib.hid (below_drew (Below.refl w1.heap.size w1))
 have KT1 : Hid True := trivial
 have KT2 : Hid True := trivial
 clear hb1 hv hlt rQ rR S2 hz hq1 hq2
 generalize hlq' : List.length Q = lq at *
 generalize hlr' : List.length R = lr at *
 have HLQ := Lib.hid hlq
 have HLR := Lib.hid hlr
 clear hlq hlr hlq' hlr'
 go_wp2_with fail
 go_region_held3 (fun w' => w'.cell? ⟨w.heap.size, 0, none⟩ = some (.bool n) ∧ w'.cell? ⟨w.heap.size + 1, 0, none⟩ = some (.bool m)) (go_keep)
  (first
   | (go_at_call 43; (with_reducible refine (HQ1.out _ HC.out).mono ?_); rintro e w4 ⟨T1, rfl, hr1, hzr1, hlt1, hb4⟩; have KT1 := Lib.hid hr1; have KZ1 := Lib.hid hzr1; have KL1 := Lib.hid hlt1; (try (have H9 := Lib.hid (RefR.up KT2.out hb4); clear KT2; have KT2 := H9; clear H9)); have HC9 := Lib.hid (below_then HC.out hb4 HC.out.size); clear HC hr1 hzr1 hlt1; have HC := HC9; clear HC9 hb4 x0 x1 x2 x3 y0 y1 y2 y3 z0 z1 z2 z3; have S9 := HS2.out.call HC.out; have x0 := S9.b0.c0; have x1 := S9.b0.c1; have x2 := S9.b1.c0; have x3 := S9.b1.c1; have y0 := S9.b2.c0; have y1 := S9.b2.c1; have y2 := S9.b3.c0; have y3 := S9.b3.c1; have z0 := S9.b2.f0; have z1 := S9.b2.f1; have z2 := S9.b3.f0; have z3 := S9.b3.f1; clear S9)
   | (go_at_call 43; (with_reducible refine (HQ2.out _ HC.out).mono ?_); rintro e w4 ⟨T2, rfl, hr1, hzr1, hlt1, hb4⟩; have KT2 := Lib.hid hr1; have KZ2 := Lib.hid hzr1; have KL2 := Lib.hid hlt1; (try (have H9 := Lib.hid (RefR.up KT1.out hb4); clear KT1; have KT1 := H9; clear H9)); have HC9 := Lib.hid (below_then HC.out hb4 HC.out.size); clear HC hr1 hzr1 hlt1; have HC := HC9; clear HC9 hb4 x0 x1 x2 x3 y0 y1 y2 y3 z0 z1 z2 z3; have S9 := HS2.out.call HC.out; have x0 := S9.b0.c0; have x1 := S9.b0.c1; have x2 := S9.b1.c0; have x3 := S9.b1.c1; have y0 := S9.b2.c0; have y1 := S9.b2.c1; have y2 := S9.b3.c0; have y3 := S9.b3.c1; have z0 := S9.b2.f0; have z1 := S9.b2.f1; have z2 := S9.b3.f0; have z3 := S9.b3.f1; clear S9))
 all_goals
  go_wp2
  have hS := HS2.out.call HC.out
  refine bodyPost_ret (v := .tuple #[.agg #[.bool (!(n == m) && decide (0 < List.length T1)), .slice A1 (List.length T1) c1], .agg #[.bool (n && decide (0 < List.length T2)), .slice A2 (List.length T2) c2], .int .i64 0]) (by simp [results, Tryz.results73, go_sem, y0, y1, y2, y3]) rfl ?_
  have hf := fun (W : World) u1 v1 u2 v2 hW => rq_final (W := W) (u1 := u1) (v1 := v1) (u2 := u2) (v2 := v2) hS KT1.out KT2.out hW
  exact rqr_post (hf _ _ _ _ _ (by first | exact .inl rfl | exact .inr rfl)) (KZ1.out.trans HZ.out.1.symm) (KZ2.out.trans HZ.out.2.symm) (Nat.le_trans KL1.out HLQ.out) (Nat.le_trans KL2.out HLR.out)
theorem top_drop {L : List Nat} (h : Top L) (k : Nat) : Top (L.drop k) := by
 intro h0
 rw [List.length_drop] at h0
 have := h (by omega)
 rw [nth_drop, List.length_drop, show k + (L.length - k - 1) = L.length - 1 by omega]
 exact this
theorem rsub2T (A A' : Option Addr) (c c' : Nat) (L M : List Nat) (w : World) (hl : L.length ≤ 500000) (hml : M.length ≤ L.length)
  (hL : Lim4 L) (hM : Lim4 M) (hle : val4 M ≤ val4 L) (hR : Row .i64 w w.heap.size A c L) (hR' : Row .i64 w w.heap.size A' c' M) :
  Calls Tryz.prog 89 #[.slice A L.length c, .slice A' M.length c'] w fun e w' => ∃ A2 c2 R, e = .returned (.slice A2 (List.length R) c2) ∧
   Row .i64 w' w'.heap.size A2 c2 R ∧ Lim4 R ∧ val4 R + val4 M = val4 L ∧ List.length R ≤ L.length + M.length + 1 ∧ Below w.heap.size w w' ∧ Top R := by
 refine (rsub_walk A A' c c' L M w (by omega) hml hL hM hR hR').mono ?_
 rintro e w' ⟨A2, c2, rfl, hrow, hb⟩
 have hok := rsSt_ok hL hM L.length
 have hv := rsSt_val hL hM L.length
 rw [valB_take_over _ _ _ (Nat.le_refl _), valB_take_over _ _ _ hml] at hv
 have hlt := valB_lt hok.1
 rw [hok.2.2] at hlt
 have hb0 : (rsSt L M L.length).2 = 0 := by
  rcases Nat.eq_zero_or_pos (rsSt L M L.length).2 with h | h
  ·exact h
  ·have h1 : (rsSt L M L.length).2 = 1 := by have := hok.2.1; omega
   rw [h1] at hv; simp only [val4] at hle; omega
 rw [hb0] at hv
 have htl := trimN_le (rsSt L M L.length).1 L.length
 have el : ((rsSt L M L.length).1.take (trimN (rsSt L M L.length).1 L.length)).length = trimN (rsSt L M L.length).1 L.length := by rw [List.length_take, hok.2.2]; omega
 refine ⟨A2, c2, (rsSt L M L.length).1.take (trimN (rsSt L M L.length).1 L.length), by rw [el], hrow.take _, hok.1.take _, ?_, by rw [el]; omega, hb, ?_⟩
 rotate_left
 ·unfold Top; rw [el]; intro h; rw [nth_take (by omega)]; have := trimN_top (rsSt L M L.length).1 L.length h; exact this
 rw [val4, trimN_val _ _ _ (by rw [hok.2.2]; exact Nat.le_refl _), List.take_of_length_le (by rw [hok.2.2]; exact Nat.le_refl _)]
 simpa using hv
set_option maxRecDepth 20000 in
set_option maxHeartbeats 6400000 in
theorem rquo_longT (A A' : Option Addr) (c c' n : Nat) (L M : List Nat) (w : World) (hl : L.length ≤ 100000) (hm : M.length = n) (hn0 : 0 < n) (hml : n ≤ L.length) (hL : Lim4 L) (hM : Lim4 M) (htM : Top M) (htL : Top L)
  (hR : Row .i64 w w.heap.size A c L) (hR' : Row .i64 w w.heap.size A' c' M) :
  Calls Tryz.prog 68 #[.slice A L.length c, .slice A' n c'] w fun e w' => ∃ A1 c1 Q A2 c2 R, e = .returned (.tuple #[.slice A1 (List.length Q) c1, .slice A2 (List.length R) c2]) ∧
   Row .i64 w' w'.heap.size A1 c1 Q ∧ Row .i64 w' w'.heap.size A2 c2 R ∧ Lim4 Q ∧ Lim4 R ∧ val4 Q * val4 M + val4 R = val4 L ∧ val4 R < val4 M ∧ List.length Q ≤ L.length ∧ List.length R ≤ 3 * L.length + 9 ∧ Below w.heap.size w w' ∧ Top R := by
 obtain ⟨i0, hi, hz0, hz1, hz2⟩ := info_parts info3
 obtain ⟨b, o, rfl, hbB, hcs⟩ := hR.spot (by omega)
 have hst := rq_start hL rfl hm hn0 hml htM
 have htop0 : ∀ k, Top (L.drop k) := fun k => top_drop htL k
 have HTOP0 := Lib.hid htop0
 clear htop0
 have hlc := hR.len
 generalize hl' : L.length = l at *
 have HL := Lib.hid hl'
 have HM := Lib.hid hm
 have HST := Lib.hid hst
 clear hl' hm hst
 obtain ⟨fr, hfr⟩ : ∃ fr, fr = l - n + 1 := ⟨_, rfl⟩
 have f1 : fr + n = l + 1 := by omega
 have f2 : (l : Int) - (n : Int) + 1 = (fr : Int) := by omega
 have f3 : (0 : Int) ≤ (fr : Int) := by omega
 have f4 : (fr : Int) ≤ (l : Int) := by omega
 have f5 : (l : Int) ≤ (c : Int) := by omega
 have HFR := Lib.hid hfr
 clear hfr
 have hrow0 : Row .i64 w w.heap.size (some ⟨b, o + fr, none⟩) (c - fr) (L.drop fr) := by
  refine ⟨by rw [List.length_drop, HL.out]; omega, fun _ => ⟨b, o + fr, rfl, hbB, Cells.drop hcs fr⟩⟩
 have hrow1 : l = fr → Row .i64 w w.heap.size (some ⟨b, o, none⟩) 0 (L.drop fr) := by
  intro h
  rw [List.drop_eq_nil_of_le (by rw [HL.out]; omega)]
  exact Row.nil _ _ _ _ _
 have hdl : (L.drop fr).length = l - fr := by rw [List.length_drop, HL.out]
 have HR0 := Lib.hid hrow0
 have HR1 := Lib.hid hrow1
 have HDL := Lib.hid hdl
 have HCS := Lib.hid hcs
 clear hrow0 hrow1 hdl hcs hR
 have hcase : (¬ c = fr ∧ ¬ c - fr = 0) ∨ (c = fr ∧ l = fr) := by omega
 rcases hcase with ⟨g1, g2⟩ | ⟨g1, g2⟩
 ·go_enter Tryz.func68, Tryz.ntmps68
  go_wp2_with (first
   | (refine wpList_make_zeros _ rfl (.tmp 25) (.tmp 25) 31 rfl 3 .i64 i0 8 Tryz.underlying31 hi hz0 hz1 hz2 .i64 .i64 _ _ fr rfl rfl (by omega) (by omega) (by omega) (by omega) ?_; intro w1 hb1 hB1 hs1)
   | (at_builtin; refine wpList_append_row rfl (.tmp 27) (.tmp 30) 31 rfl .i64 w1.heap.size 3 i0 8 Tryz.underlying31 hi hz0 hz1 hz2 (by omega) (.slice (some ⟨w1.heap.size, 0, none⟩) 0 0) [] rfl (Own.ofBlk (by show _ = _; rw [heap_alloc_new]; rfl) (Nat.le_refl _) (by simp)) (some ⟨b, o + fr, none⟩) (l - fr) (c - fr) (L.drop fr) HDL.out rfl ((HR0.out.below hB1).alloc (by omega) _) (by simp; omega) (by simp) ?_; intro v2 w2 ho2 hb2)
   | fail)
  have hlies := ho2.out.lies
  rw [List.nil_append] at hlies
  obtain ⟨A2, c2, rfl, hr2, -⟩ := hlies
  rw [HDL.out]
  obtain ⟨lf, hlf⟩ : ∃ lf, l - fr = lf := ⟨_, rfl⟩
  rw [hlf]
  have HLF := Lib.hid hlf
  clear hlf
  have hbQ := (hb1.out.alloc (.cells #[] 3)).below hb2 hb1.out.lt
  have hbw2 := (hB1.trans (Below.less ((Below.refl _ _).alloc (Nat.le_refl _) _) (by omega))).trans (Below.less hb2 (by omega))
  have HB2 := Lib.hid hbw2
  have hg2 : w.heap.size < w2.heap.size := hbQ.lt
  have HBQ := Lib.hid hbQ
  have HR2 := Lib.hid hr2
  have hln2 : (L.drop fr).length ≤ 3 * l + 9 := by rw [HDL.out]; omega
  clear ho2 hb2 hb1 hB1 hbQ hr2 hbw2 hs1
  go_loopw [8, 9] (fun rv iv wr => ∃ (j : Nat) (Q : List Nat) (A2 : Option Addr) (c2 : Nat) (R : List Nat), j ≤ fr ∧ iv = .int .i64 ((j : Int) - 1) ∧ rv = .slice A2 (List.length R) c2 ∧ Row .i64 wr wr.heap.size A2 c2 R ∧ Lim4 R ∧ List.length R ≤ 3 * l + 9 ∧ Blk .i64 3 wr w.heap.size Q ∧ Q.length = fr ∧ Hid (RqInv (val4 M) L Q j (val4 R)) ∧ Below w.heap.size w wr ∧ Hid (Top R)) (fun _ iv _ => (intOf iv + 1).toNat)
  case atStart => exact ⟨fr, _, A2, c2, L.drop fr, Nat.le_refl _, rfl, by rw [HDL.out, HLF.out], HR2.out, fun d hd => hL d (List.mem_of_mem_drop hd), hln2, HBQ.out, by simp, by have := HST.out; rw [← HFR.out] at this; exact this, HB2.out, HTOP0.out _⟩
  case round =>
   obtain ⟨j, Q, A2, c2, R, hj, rfl, rfl, hrR, hlR, hnR, hbQ, hQl, hin, hbw, htR⟩ := hrel
   have hlR' : ∃ lr, List.length R = lr := ⟨_, rfl⟩
   rcases Nat.eq_zero_or_pos j with rfl | hpos
   ·have htQ := rtrim_any (some ⟨w.heap.size, 0, none⟩) fr Q wr (w.heap.size + 1) (by omega) (Row.ofBlk hbQ (Nat.lt_succ_self _) (by omega))
    rw [hQl] at htQ
    have HTQ := Lib.hid htQ
    have HQL := Lib.hid hQl
    have HBQ9 := Lib.hid hbQ
    have HRR := Lib.hid hrR
    clear htQ hQl hbQ hrR hlR'
    go_wp2_with fail
    refine HTQ.out.mono ?_
    rintro e w9 ⟨rfl, rfl⟩
    go_wp2_with fail
    go_ret2
    obtain ⟨QT, r1, r2, r3, r4, r5⟩ := rrow_take (Row.ofBlk (B := wr.heap.size) (c := fr) HBQ9.out HBQ9.out.lt (by rw [HQL.out]; exact Nat.le_refl _)) hin.out.lim
    rw [HQL.out] at r1
    have hv := hin.out.val
    rw [List.drop_zero, List.drop_zero] at hv
    have t1 := trimN_le Q fr
    exact ⟨_, _, QT, _, _, R, by rw [r1]; rfl, r2, HRR.out, r3, hlR, by rw [r5]; exact hv, hin.out.lt, by omega, hnR, hbw, htR.out⟩
   ·obtain ⟨i, rfl⟩ : ∃ i, j = i + 1 := ⟨j - 1, by omega⟩
    have hi1 : ((i + 1 : Nat) : Int) - 1 = i := by omega
    have hci := (hbw.cell (p := ⟨b, o + i, none⟩) (by exact hbB)).trans (HCS.out i (by rw [HL.out]; omega))
    have hli : i < l := by omega
    have hgq : w.heap.size < wr.heap.size := hbQ.lt
    have hlr9 : List.length R ≤ 3 * l + 9 := hnR
    have HQL := Lib.hid hQl
    rw [hi1]
    clear hi1 hQl
    go_wp2_with (first
     | (at_builtin; refine wpList_append_row rfl (.tmp 42) (.tmp 43) 31 rfl .i64 wr.heap.size 3 i0 8 Tryz.underlying31 hi hz0 hz1 hz2 (by omega) (.slice (some ⟨wr.heap.size, 0, none⟩) 1 1) [nth L i] rfl (Own.ofBlk (blk_one4 wr (nth L i)) (Nat.le_refl _) (by simp)) A2 (List.length R) c2 R rfl rfl (hrR.alloc (Nat.le_refl _) _) (by simp; omega) (by simp) ?_; intro v3 w3 ho3 hb3)
     | fail)
    obtain ⟨A3, c3, hv3, hr3, hl3⟩ := ho3.out.lies
    have hne3 : A3 ≠ none := by
     rintro rfl
     have := hr3.spot (by simp)
     obtain ⟨b9, o9, e9, -, -⟩ := this
     cases e9
    obtain ⟨g3, o3, rfl⟩ : ∃ g3 o3, A3 = some ⟨g3, o3, none⟩ := by
     obtain ⟨b9, o9, e9, -, -⟩ := hr3.spot (by simp)
     exact ⟨b9, o9, e9⟩
    have hg3 : wr.heap.size ≤ g3 := hl3 _ _ rfl
    have hlim3 : Lim4 ([nth L i] ++ R) := by
     intro d hd
     rcases List.mem_append.1 hd with h | h
     ·rw [List.mem_singleton] at h; subst h; exact nth_all hL (by omega) i
     ·exact hlR d h
    have hval3 := val4_cons (nth L i) R
    have hln3 : ([nth L i] ++ R).length ≤ 3 * l + 10 := by simp; omega
    have hbw3 : Below w.heap.size w w3 := hbw.trans (Below.less ((below_alloc_new _).trans hb3) (by omega))
    have hbQ3 := (hbQ.alloc (.cells #[.int .i64 (nth L i)] 3)).below hb3 hgq
    subst hv3
    obtain ⟨a9, ha9⟩ : ∃ a9, nth L i = a9 := ⟨_, rfl⟩
    have HVAL3 := Lib.hid hval3
    generalize [nth L i] ++ R = R3 at *
    clear ho3 hl3 hne3 hval3 ha9 hbQ hbw hb3 hrR
    have htr := rtrim_any (some ⟨g3, o3, none⟩) c3 R3 w3 w3.heap.size (by omega) hr3
    obtain ⟨T, t1, t2, t3, t4, t5⟩ := rrow_take hr3 hlim3
    rw [← t1] at htr
    have hTl := trimN_le R3 R3.length
    have HTR := Lib.hid htr
    have HT1 := Lib.hid t1
    have hTn : List.length T ≤ 3 * l + 10 := by omega
    clear htr t1 hTl hr3 hlim3
    generalize List.length R3 = n3 at *
    refine HTR.out.mono ?_
    rintro e w4 ⟨rfl, rfl⟩
    have HB3 := Lib.hid hbw3
    have HBQ3 := Lib.hid hbQ3
    have HRT := Lib.hid t2
    have HTV := Lib.hid t5
    have hMr := Lib.hid (hR'.below hbw3)
    have hs3 : w.heap.size ≤ w3.heap.size := hbw3.size
    have hgne : w.heap.size ≠ g3 := by omega
    have hs3' : w.heap.size < w3.heap.size := hbQ3.lt
    have hg3s : g3 < w3.heap.size ∨ List.length T = 0 := by
     rcases Nat.eq_zero_or_pos (List.length T) with h | h
     ·exact .inr h
     ·obtain ⟨b9, o9, e9, h9, -⟩ := t2.spot h
      injection e9 with e9
      injection e9 with e9
      subst e9
      exact .inl h9
    clear hbw3 hbQ3 t2 t5 HTR hci
    generalize hTn' : List.length T = nt at *
    have HTN := Lib.hid hTn'
    clear hTn'
    have hup := hin.out.lt
    have hTup : Hid (val4 T < val4 M * (9999 + 1)) := by
     show _ < _
     rw [HTV.out, HVAL3.out]
     have := nth_all hL (show 0 < 10000 by omega) i
     omega
    go_wp2_with fail
    go_loopw [10, 11] (fun lv hv wq => ∃ lo hi : Nat, lo ≤ hi ∧ hi ≤ 9999 ∧ lv = .int .i64 (lo : Int) ∧ hv = .int .i64 (hi : Int) ∧ Hid (val4 M * lo ≤ val4 T ∧ val4 T < val4 M * (hi + 1)) ∧ Below w3.heap.size w3 wq) (fun lv hv _ => (intOf hv - intOf lv).toNat)
    case atStart => exact ⟨0, 9999, by omega, by omega, rfl, rfl, ⟨by simp, hTup⟩, Below.refl _ _⟩
    case round =>
     obtain ⟨lo, hi', hlh, hh9, rfl, rfl, hbs, hbq⟩ := hrel
     by_cases hlt : lo < hi'
     ·obtain ⟨mid, hmid⟩ : ∃ mid, mid = (lo + hi' + 1) / 2 := ⟨_, rfl⟩
      have hm1 : ((lo : Int) + (hi' : Int) + 1) / 2 = (mid : Int) := by omega
      have hm2 : lo < mid := by omega
      have hm3 : mid ≤ hi' := by omega
      have HMID := Lib.hid hmid
      clear hmid
      have hmr : Row .i64 wr wr.heap.size A' c' M := ((hMr.out.more hs3).below hbq).more hbq.size
      have hTr : Row .i64 wr wr.heap.size (some ⟨g3, o3, none⟩) c3 T := (HRT.out.below hbq).more hbq.size
      have hmul := fun (W : World) (hb : Below wr.heap.size wr W) (hm : Row .i64 W W.heap.size (some ⟨wr.heap.size, 0, none⟩) 1 [mid]) => rmul2 A' (some ⟨wr.heap.size, 0, none⟩) c' 1 M [mid] W (by rw [HM.out]; omega) (by simp) hM (fun d hd => by rw [List.mem_singleton] at hd; omega) (hmr.up hb) hm
      rw [HM.out] at hmul
      have HMUL := Lib.hid hmul
      have HTr := Lib.hid hTr
      clear hmul hmr hTr
      go_wp2_with fail
      have hbm := blk_one4 wr mid
      refine (HMUL.out _ (below_alloc_new _) (Row.ofBlk hbm hbm.lt (by simp))).mono ?_
      rintro e w5 ⟨g5, c5, P5, rfl, k1, k2, k3, k4, k5, k6, k7⟩
      have hb5 : Below wr.heap.size wr w5 := (below_alloc_new _).trans (Below.less k6 (by simp))
      have hTr5 := HTr.out.up hb5
      have hcm := rcompare_any (some ⟨g5, 0, none⟩) (some ⟨g3, o3, none⟩) c5 c3 P5 T w5 (by simp at k5; omega) (by rw [HTN.out]; omega) k1 hTr5
      rw [rcmp_val k1 hTr5 k2 t3 k3 t4, k4, show val4 [mid] = mid by simp [valB], HTN.out] at hcm
      have HCM := Lib.hid hcm
      have HB5 := Lib.hid (below_then hbq hb5 hbq.size)
      clear hcm hb5 hTr5 k1 k2 k3 k4 k5 k6 k7 hbm
      generalize List.length P5 = n5 at *
      by_cases hle : val4 M * mid ≤ val4 T
      ·have hd := cmpZ_le0 hle
       have HLE := Lib.hid hle
       clear hle
       generalize cmpZ (val4 M * mid) (val4 T) = cz at *
       go_wp2_with fail
       refine HCM.out.mono ?_
       rintro e w6 ⟨rfl, nq, rfl⟩
       go_wp2_with fail
       go_roundw
       case rel => exact ⟨mid, hi', by omega, hh9, rfl, rfl, ⟨HLE.out, hbs.out.2⟩, below_drewN HB5.out _⟩
       case measure => simp [intOf]; omega
      ·have hd := cmpZ_gt0 (show val4 T < val4 M * mid by omega)
       have HLE := Lib.hid hle
       clear hle
       generalize cmpZ (val4 M * mid) (val4 T) = cz at *
       go_wp2_with fail
       refine HCM.out.mono ?_
       rintro e w6 ⟨rfl, nq, rfl⟩
       go_wp2_with fail
       go_roundw
       case rel => exact ⟨lo, mid - 1, by omega, by omega, rfl, by go_num, ⟨hbs.out.1, by rw [show mid - 1 + 1 = mid by omega]; exact Nat.lt_of_not_le HLE.out⟩, below_drewN HB5.out _⟩
       case measure => simp [intOf]; omega
     ·obtain rfl : lo = hi' := by omega
      have hbQr := HBQ3.out.below hbq hs3'
      have hcq := hbQr.cell i (by rw [HQL.out]; omega)
      have hfq := hbQr.frozen i
      have hbQs := hbQr.set_ i lo
      have hTs : Row .i64 (wr.setCell ⟨w.heap.size, i, none⟩ (.int .i64 lo)) wr.heap.size (some ⟨g3, o3, none⟩) c3 T := ((HRT.out.below hbq).more hbq.size).apart (by exact hgne) _
      have hbs2 : Below w.heap.size w (wr.setCell ⟨w.heap.size, i, none⟩ (.int .i64 lo)) := (HB3.out.trans (Below.less hbq hs3)).setCell (Nat.le_refl _) _
      have hszs : (wr.setCell ⟨w.heap.size, i, none⟩ (.int .i64 (lo : Int))).heap.size = wr.heap.size := setCell_size _ _ _
      have hMs := hR'.below hbs2
      have HBQS := Lib.hid hbQs
      have HTS := Lib.hid hTs
      have HBS2 := Lib.hid hbs2
      have HMS := Lib.hid hMs
      have hwrs : w.heap.size < wr.heap.size := hbQr.lt
      have HSZ := Lib.hid hszs
      clear hbQr hbQs hTs hbs2 hszs hMs hlt
      go_upto_region 17 with (fail)
      change Code.wp Tryz.prog _ _ _ (wr.setCell ⟨w.heap.size, i, none⟩ (.int .i64 lo))
      generalize wr.setCell ⟨w.heap.size, i, none⟩ (.int .i64 (lo : Int)) = ws at *
      clear hcq hfq
      have hbl := blk_one4 ws lo
      have hlo9 : Lim4 [lo] := fun d hd => by rw [List.mem_singleton] at hd; omega
      have htl := rtrim_any (some ⟨ws.heap.size, 0, none⟩) 1 [lo] (ws.alloc (.cells #[.int .i64 lo] 3)) (ws.heap.size + 1) (by simp) (Row.ofBlk hbl (Nat.lt_succ_self _) (by simp))
      obtain ⟨U, u1, u2, u3, u4, u5⟩ := rrow_take (Row.ofBlk (B := ws.heap.size + 1) (c := 1) hbl (Nat.lt_succ_self _) (by simp)) hlo9
      rw [← u1] at htl
      have hU1 : List.length U ≤ 1 := by rw [u1]; exact trimN_le _ _
      have huv : val4 U = lo := by rw [u5]; simp [valB]
      have hba := below_alloc_new (w := ws) (.cells #[.int .i64 lo] 3)
      have hsa : (ws.alloc (.cells #[.int .i64 (lo : Int)] 3)).heap.size = ws.heap.size + 1 := by simp
      rw [← hsa] at u2
      have hmul := rmul2 A' (some ⟨ws.heap.size, 0, none⟩) c' 1 M U (ws.alloc (.cells #[.int .i64 lo] 3)) (by rw [HM.out]; omega) (by omega) hM u3 (((HMS.out.more (by rw [HSZ.out]; omega)).below hba).more (by rw [hsa]; omega)) u2
      rw [HM.out, huv] at hmul
      have hTa : Row .i64 (ws.alloc (.cells #[.int .i64 lo] 3)) (ws.alloc (.cells #[.int .i64 (lo : Int)] 3)).heap.size (some ⟨g3, o3, none⟩) c3 T := (HTS.out.more (by rw [HSZ.out]; exact Nat.le_refl _)).up hba
      have HTL := Lib.hid htl
      have HMUL := Lib.hid hmul
      have HTA := Lib.hid hTa
      have HBA := Lib.hid hba
      have HSA := Lib.hid hsa
      clear htl hmul hTa hba u1 u2 u5 huv hbl hsa
      generalize List.length U = nu at *
      go_wp2_with fail
      refine HTL.out.mono ?_
      rintro e w6 ⟨rfl, rfl⟩
      go_wp2_with fail
      refine HMUL.out.mono ?_
      rintro e w7 ⟨g7, c7, P7, rfl, k1, k2, k3, k4, k5, k6, k7⟩
      have hT7 := HTA.out.up k6
      have hle7 : val4 P7 ≤ val4 T := by rw [k4]; exact hbs.out.1
      have hPT := len_le4 t3 k3 hle7
      have hsb := rsub2T (some ⟨g3, o3, none⟩) (some ⟨g7, 0, none⟩) c3 c7 T P7 w7 (by rw [HTN.out]; omega) hPT t3 k2 hle7 hT7 k1
      rw [HTN.out] at hsb
      have HSB := Lib.hid hsb
      have HP4 := Lib.hid k4
      have HPT := Lib.hid hPT
      have hb7 : Below w.heap.size w w7 := HBS2.out.trans (Below.less (HBA.out.trans (Below.less k6 (by rw [HSA.out]; omega))) (by rw [HSZ.out]; omega))
      have HB7 := Lib.hid hb7
      have hQ7 := (HBQS.out.below HBA.out (by rw [HSZ.out]; exact hwrs)).below k6 (by rw [HSA.out, HSZ.out]; omega)
      have HQ7 := Lib.hid hQ7
      clear hsb k1 k2 k3 k4 k5 k6 k7 hT7 hle7 hPT hb7 hQ7
      generalize List.length P7 = n7 at *
      go_wp2_with fail
      refine HSB.out.mono ?_
      rintro e w8 ⟨A8, c8, R8, rfl, m1, m2, m3, m4, m5, m6⟩
      have HB8 := Lib.hid (below_then HB7.out m5 HB7.out.size)
      have HQ8 := Lib.hid (HQ7.out.below m5 HQ7.out.lt)
      have M1 := Lib.hid m1
      have M3 := Lib.hid m3
      have M4 := Lib.hid m4
      have M6 := Lib.hid m6
      clear m1 m3 m4 m5 m6
      go_wp2_with fail
      go_roundw
      case rel =>
       have hnT := len_T t4 hM HM.out hTup.out
       have e1 := HTN.out
       have e2 := HPT.out
       have e3 := M4.out
       have e4 := M3.out
       have e5 := hbs.out.2
       rw [HP4.out] at e4
       have e6 : val4 M * (lo + 1) = val4 M * lo + val4 M := by rw [Nat.mul_add, Nat.mul_one]
       rw [e6] at e5
       have e7 : val4 R8 + val4 M * lo = nth L i + 10000 * val4 R := by rw [e4, HTV.out, HVAL3.out]
       exact ⟨i, Q.set i lo, A8, c8, R8, by omega, rfl, rfl, M1.out, m2, by omega, HQ8.out, by rw [List.length_set]; exact HQL.out, rq_step hin.out (by rw [HQL.out]; omega) (by omega) e7 (by omega), HB8.out, M6.out⟩
      case measure => simp [intOf]
 ·obtain rfl : fr = c := g1.symm
  have G2 := Lib.hid g2
  have hl0 : l - fr = 0 := by omega
  have HL0 := Lib.hid hl0
  clear g1 g2 hl0
  go_enter Tryz.func68, Tryz.ntmps68
  go_wp2_with (first
   | (refine wpList_make_zeros _ rfl (.tmp 25) (.tmp 25) 31 rfl 3 .i64 i0 8 Tryz.underlying31 hi hz0 hz1 hz2 .i64 .i64 _ _ fr rfl rfl (by omega) (by omega) (by omega) (by omega) ?_; intro w1 hb1 hB1 hs1)
   | fail)
  change Code.wp Tryz.prog _ _ _ (w1.alloc (.cells #[] 3))
  have hdn : L.drop fr = [] := List.eq_nil_of_length_eq_zero (by rw [HDL.out]; exact HL0.out)
  have hr2 : Row .i64 (w1.alloc (.cells #[] 3)) (w1.alloc (.cells #[] 3)).heap.size (some ⟨w1.heap.size, 0, none⟩) 0 (L.drop fr) := by rw [hdn]; exact Row.nil _ _ _ _ _
  have hbQ := hb1.out.alloc (.cells #[] 3)
  have hbw2 : Below w.heap.size w (w1.alloc (.cells #[] 3)) := hB1.trans ((Below.refl _ _).alloc (by omega) _)
  generalize w1.alloc (.cells #[] 3) = w2 at *
  have HB2 := Lib.hid hbw2
  have hg2 : w.heap.size < w2.heap.size := hbQ.lt
  have HBQ := Lib.hid hbQ
  have HR2 := Lib.hid hr2
  have hln2 : (L.drop fr).length ≤ 3 * l + 9 := by rw [HDL.out]; omega
  clear hb1 hB1 hbQ hr2 hbw2 hs1 hdn
  go_loopw [8, 9] (fun rv iv wr => ∃ (j : Nat) (Q : List Nat) (A2 : Option Addr) (c2 : Nat) (R : List Nat), j ≤ fr ∧ iv = .int .i64 ((j : Int) - 1) ∧ rv = .slice A2 (List.length R) c2 ∧ Row .i64 wr wr.heap.size A2 c2 R ∧ Lim4 R ∧ List.length R ≤ 3 * l + 9 ∧ Blk .i64 3 wr w.heap.size Q ∧ Q.length = fr ∧ Hid (RqInv (val4 M) L Q j (val4 R)) ∧ Below w.heap.size w wr ∧ Hid (Top R)) (fun _ iv _ => (intOf iv + 1).toNat)
  case atStart => exact ⟨fr, _, some ⟨w1.heap.size, 0, none⟩, 0, L.drop fr, Nat.le_refl _, rfl, by rw [HDL.out, HL0.out], HR2.out, fun d hd => hL d (List.mem_of_mem_drop hd), hln2, HBQ.out, by simp, by have := HST.out; rw [← HFR.out] at this; exact this, HB2.out, HTOP0.out _⟩
  case round =>
   obtain ⟨j, Q, A2, c2, R, hj, rfl, rfl, hrR, hlR, hnR, hbQ, hQl, hin, hbw, htR⟩ := hrel
   have hlR' : ∃ lr, List.length R = lr := ⟨_, rfl⟩
   rcases Nat.eq_zero_or_pos j with rfl | hpos
   ·have htQ := rtrim_any (some ⟨w.heap.size, 0, none⟩) fr Q wr (w.heap.size + 1) (by omega) (Row.ofBlk hbQ (Nat.lt_succ_self _) (by omega))
    rw [hQl] at htQ
    have HTQ := Lib.hid htQ
    have HQL := Lib.hid hQl
    have HBQ9 := Lib.hid hbQ
    have HRR := Lib.hid hrR
    clear htQ hQl hbQ hrR hlR'
    go_wp2_with fail
    refine HTQ.out.mono ?_
    rintro e w9 ⟨rfl, rfl⟩
    go_wp2_with fail
    go_ret2
    obtain ⟨QT, r1, r2, r3, r4, r5⟩ := rrow_take (Row.ofBlk (B := wr.heap.size) (c := fr) HBQ9.out HBQ9.out.lt (by rw [HQL.out]; exact Nat.le_refl _)) hin.out.lim
    rw [HQL.out] at r1
    have hv := hin.out.val
    rw [List.drop_zero, List.drop_zero] at hv
    have t1 := trimN_le Q fr
    exact ⟨_, _, QT, _, _, R, by rw [r1]; rfl, r2, HRR.out, r3, hlR, by rw [r5]; exact hv, hin.out.lt, by omega, hnR, hbw, htR.out⟩
   ·obtain ⟨i, rfl⟩ : ∃ i, j = i + 1 := ⟨j - 1, by omega⟩
    have hi1 : ((i + 1 : Nat) : Int) - 1 = i := by omega
    have hci := (hbw.cell (p := ⟨b, o + i, none⟩) (by exact hbB)).trans (HCS.out i (by rw [HL.out]; omega))
    have hli : i < l := by omega
    have hgq : w.heap.size < wr.heap.size := hbQ.lt
    have hlr9 : List.length R ≤ 3 * l + 9 := hnR
    have HQL := Lib.hid hQl
    rw [hi1]
    clear hi1 hQl
    go_wp2_with (first
     | (at_builtin; refine wpList_append_row rfl (.tmp 42) (.tmp 43) 31 rfl .i64 wr.heap.size 3 i0 8 Tryz.underlying31 hi hz0 hz1 hz2 (by omega) (.slice (some ⟨wr.heap.size, 0, none⟩) 1 1) [nth L i] rfl (Own.ofBlk (blk_one4 wr (nth L i)) (Nat.le_refl _) (by simp)) A2 (List.length R) c2 R rfl rfl (hrR.alloc (Nat.le_refl _) _) (by simp; omega) (by simp) ?_; intro v3 w3 ho3 hb3)
     | fail)
    obtain ⟨A3, c3, hv3, hr3, hl3⟩ := ho3.out.lies
    have hne3 : A3 ≠ none := by
     rintro rfl
     have := hr3.spot (by simp)
     obtain ⟨b9, o9, e9, -, -⟩ := this
     cases e9
    obtain ⟨g3, o3, rfl⟩ : ∃ g3 o3, A3 = some ⟨g3, o3, none⟩ := by
     obtain ⟨b9, o9, e9, -, -⟩ := hr3.spot (by simp)
     exact ⟨b9, o9, e9⟩
    have hg3 : wr.heap.size ≤ g3 := hl3 _ _ rfl
    have hlim3 : Lim4 ([nth L i] ++ R) := by
     intro d hd
     rcases List.mem_append.1 hd with h | h
     ·rw [List.mem_singleton] at h; subst h; exact nth_all hL (by omega) i
     ·exact hlR d h
    have hval3 := val4_cons (nth L i) R
    have hln3 : ([nth L i] ++ R).length ≤ 3 * l + 10 := by simp; omega
    have hbw3 : Below w.heap.size w w3 := hbw.trans (Below.less ((below_alloc_new _).trans hb3) (by omega))
    have hbQ3 := (hbQ.alloc (.cells #[.int .i64 (nth L i)] 3)).below hb3 hgq
    subst hv3
    obtain ⟨a9, ha9⟩ : ∃ a9, nth L i = a9 := ⟨_, rfl⟩
    have HVAL3 := Lib.hid hval3
    generalize [nth L i] ++ R = R3 at *
    clear ho3 hl3 hne3 hval3 ha9 hbQ hbw hb3 hrR
    have htr := rtrim_any (some ⟨g3, o3, none⟩) c3 R3 w3 w3.heap.size (by omega) hr3
    obtain ⟨T, t1, t2, t3, t4, t5⟩ := rrow_take hr3 hlim3
    rw [← t1] at htr
    have hTl := trimN_le R3 R3.length
    have HTR := Lib.hid htr
    have HT1 := Lib.hid t1
    have hTn : List.length T ≤ 3 * l + 10 := by omega
    clear htr t1 hTl hr3 hlim3
    generalize List.length R3 = n3 at *
    refine HTR.out.mono ?_
    rintro e w4 ⟨rfl, rfl⟩
    have HB3 := Lib.hid hbw3
    have HBQ3 := Lib.hid hbQ3
    have HRT := Lib.hid t2
    have HTV := Lib.hid t5
    have hMr := Lib.hid (hR'.below hbw3)
    have hs3 : w.heap.size ≤ w3.heap.size := hbw3.size
    have hgne : w.heap.size ≠ g3 := by omega
    have hs3' : w.heap.size < w3.heap.size := hbQ3.lt
    have hg3s : g3 < w3.heap.size ∨ List.length T = 0 := by
     rcases Nat.eq_zero_or_pos (List.length T) with h | h
     ·exact .inr h
     ·obtain ⟨b9, o9, e9, h9, -⟩ := t2.spot h
      injection e9 with e9
      injection e9 with e9
      subst e9
      exact .inl h9
    clear hbw3 hbQ3 t2 t5 HTR hci
    generalize hTn' : List.length T = nt at *
    have HTN := Lib.hid hTn'
    clear hTn'
    have hup := hin.out.lt
    have hTup : Hid (val4 T < val4 M * (9999 + 1)) := by
     show _ < _
     rw [HTV.out, HVAL3.out]
     have := nth_all hL (show 0 < 10000 by omega) i
     omega
    go_wp2_with fail
    go_loopw [10, 11] (fun lv hv wq => ∃ lo hi : Nat, lo ≤ hi ∧ hi ≤ 9999 ∧ lv = .int .i64 (lo : Int) ∧ hv = .int .i64 (hi : Int) ∧ Hid (val4 M * lo ≤ val4 T ∧ val4 T < val4 M * (hi + 1)) ∧ Below w3.heap.size w3 wq) (fun lv hv _ => (intOf hv - intOf lv).toNat)
    case atStart => exact ⟨0, 9999, by omega, by omega, rfl, rfl, ⟨by simp, hTup⟩, Below.refl _ _⟩
    case round =>
     obtain ⟨lo, hi', hlh, hh9, rfl, rfl, hbs, hbq⟩ := hrel
     by_cases hlt : lo < hi'
     ·obtain ⟨mid, hmid⟩ : ∃ mid, mid = (lo + hi' + 1) / 2 := ⟨_, rfl⟩
      have hm1 : ((lo : Int) + (hi' : Int) + 1) / 2 = (mid : Int) := by omega
      have hm2 : lo < mid := by omega
      have hm3 : mid ≤ hi' := by omega
      have HMID := Lib.hid hmid
      clear hmid
      have hmr : Row .i64 wr wr.heap.size A' c' M := ((hMr.out.more hs3).below hbq).more hbq.size
      have hTr : Row .i64 wr wr.heap.size (some ⟨g3, o3, none⟩) c3 T := (HRT.out.below hbq).more hbq.size
      have hmul := fun (W : World) (hb : Below wr.heap.size wr W) (hm : Row .i64 W W.heap.size (some ⟨wr.heap.size, 0, none⟩) 1 [mid]) => rmul2 A' (some ⟨wr.heap.size, 0, none⟩) c' 1 M [mid] W (by rw [HM.out]; omega) (by simp) hM (fun d hd => by rw [List.mem_singleton] at hd; omega) (hmr.up hb) hm
      rw [HM.out] at hmul
      have HMUL := Lib.hid hmul
      have HTr := Lib.hid hTr
      clear hmul hmr hTr
      go_wp2_with fail
      have hbm := blk_one4 wr mid
      refine (HMUL.out _ (below_alloc_new _) (Row.ofBlk hbm hbm.lt (by simp))).mono ?_
      rintro e w5 ⟨g5, c5, P5, rfl, k1, k2, k3, k4, k5, k6, k7⟩
      have hb5 : Below wr.heap.size wr w5 := (below_alloc_new _).trans (Below.less k6 (by simp))
      have hTr5 := HTr.out.up hb5
      have hcm := rcompare_any (some ⟨g5, 0, none⟩) (some ⟨g3, o3, none⟩) c5 c3 P5 T w5 (by simp at k5; omega) (by rw [HTN.out]; omega) k1 hTr5
      rw [rcmp_val k1 hTr5 k2 t3 k3 t4, k4, show val4 [mid] = mid by simp [valB], HTN.out] at hcm
      have HCM := Lib.hid hcm
      have HB5 := Lib.hid (below_then hbq hb5 hbq.size)
      clear hcm hb5 hTr5 k1 k2 k3 k4 k5 k6 k7 hbm
      generalize List.length P5 = n5 at *
      by_cases hle : val4 M * mid ≤ val4 T
      ·have hd := cmpZ_le0 hle
       have HLE := Lib.hid hle
       clear hle
       generalize cmpZ (val4 M * mid) (val4 T) = cz at *
       go_wp2_with fail
       refine HCM.out.mono ?_
       rintro e w6 ⟨rfl, nq, rfl⟩
       go_wp2_with fail
       go_roundw
       case rel => exact ⟨mid, hi', by omega, hh9, rfl, rfl, ⟨HLE.out, hbs.out.2⟩, below_drewN HB5.out _⟩
       case measure => simp [intOf]; omega
      ·have hd := cmpZ_gt0 (show val4 T < val4 M * mid by omega)
       have HLE := Lib.hid hle
       clear hle
       generalize cmpZ (val4 M * mid) (val4 T) = cz at *
       go_wp2_with fail
       refine HCM.out.mono ?_
       rintro e w6 ⟨rfl, nq, rfl⟩
       go_wp2_with fail
       go_roundw
       case rel => exact ⟨lo, mid - 1, by omega, by omega, rfl, by go_num, ⟨hbs.out.1, by rw [show mid - 1 + 1 = mid by omega]; exact Nat.lt_of_not_le HLE.out⟩, below_drewN HB5.out _⟩
       case measure => simp [intOf]; omega
     ·obtain rfl : lo = hi' := by omega
      have hbQr := HBQ3.out.below hbq hs3'
      have hcq := hbQr.cell i (by rw [HQL.out]; omega)
      have hfq := hbQr.frozen i
      have hbQs := hbQr.set_ i lo
      have hTs : Row .i64 (wr.setCell ⟨w.heap.size, i, none⟩ (.int .i64 lo)) wr.heap.size (some ⟨g3, o3, none⟩) c3 T := ((HRT.out.below hbq).more hbq.size).apart (by exact hgne) _
      have hbs2 : Below w.heap.size w (wr.setCell ⟨w.heap.size, i, none⟩ (.int .i64 lo)) := (HB3.out.trans (Below.less hbq hs3)).setCell (Nat.le_refl _) _
      have hszs : (wr.setCell ⟨w.heap.size, i, none⟩ (.int .i64 (lo : Int))).heap.size = wr.heap.size := setCell_size _ _ _
      have hMs := hR'.below hbs2
      have HBQS := Lib.hid hbQs
      have HTS := Lib.hid hTs
      have HBS2 := Lib.hid hbs2
      have HMS := Lib.hid hMs
      have hwrs : w.heap.size < wr.heap.size := hbQr.lt
      have HSZ := Lib.hid hszs
      clear hbQr hbQs hTs hbs2 hszs hMs hlt
      go_upto_region 17 with (fail)
      change Code.wp Tryz.prog _ _ _ (wr.setCell ⟨w.heap.size, i, none⟩ (.int .i64 lo))
      generalize wr.setCell ⟨w.heap.size, i, none⟩ (.int .i64 (lo : Int)) = ws at *
      clear hcq hfq
      have hbl := blk_one4 ws lo
      have hlo9 : Lim4 [lo] := fun d hd => by rw [List.mem_singleton] at hd; omega
      have htl := rtrim_any (some ⟨ws.heap.size, 0, none⟩) 1 [lo] (ws.alloc (.cells #[.int .i64 lo] 3)) (ws.heap.size + 1) (by simp) (Row.ofBlk hbl (Nat.lt_succ_self _) (by simp))
      obtain ⟨U, u1, u2, u3, u4, u5⟩ := rrow_take (Row.ofBlk (B := ws.heap.size + 1) (c := 1) hbl (Nat.lt_succ_self _) (by simp)) hlo9
      rw [← u1] at htl
      have hU1 : List.length U ≤ 1 := by rw [u1]; exact trimN_le _ _
      have huv : val4 U = lo := by rw [u5]; simp [valB]
      have hba := below_alloc_new (w := ws) (.cells #[.int .i64 lo] 3)
      have hsa : (ws.alloc (.cells #[.int .i64 (lo : Int)] 3)).heap.size = ws.heap.size + 1 := by simp
      rw [← hsa] at u2
      have hmul := rmul2 A' (some ⟨ws.heap.size, 0, none⟩) c' 1 M U (ws.alloc (.cells #[.int .i64 lo] 3)) (by rw [HM.out]; omega) (by omega) hM u3 (((HMS.out.more (by rw [HSZ.out]; omega)).below hba).more (by rw [hsa]; omega)) u2
      rw [HM.out, huv] at hmul
      have hTa : Row .i64 (ws.alloc (.cells #[.int .i64 lo] 3)) (ws.alloc (.cells #[.int .i64 (lo : Int)] 3)).heap.size (some ⟨g3, o3, none⟩) c3 T := (HTS.out.more (by rw [HSZ.out]; exact Nat.le_refl _)).up hba
      have HTL := Lib.hid htl
      have HMUL := Lib.hid hmul
      have HTA := Lib.hid hTa
      have HBA := Lib.hid hba
      have HSA := Lib.hid hsa
      clear htl hmul hTa hba u1 u2 u5 huv hbl hsa
      generalize List.length U = nu at *
      go_wp2_with fail
      refine HTL.out.mono ?_
      rintro e w6 ⟨rfl, rfl⟩
      go_wp2_with fail
      refine HMUL.out.mono ?_
      rintro e w7 ⟨g7, c7, P7, rfl, k1, k2, k3, k4, k5, k6, k7⟩
      have hT7 := HTA.out.up k6
      have hle7 : val4 P7 ≤ val4 T := by rw [k4]; exact hbs.out.1
      have hPT := len_le4 t3 k3 hle7
      have hsb := rsub2T (some ⟨g3, o3, none⟩) (some ⟨g7, 0, none⟩) c3 c7 T P7 w7 (by rw [HTN.out]; omega) hPT t3 k2 hle7 hT7 k1
      rw [HTN.out] at hsb
      have HSB := Lib.hid hsb
      have HP4 := Lib.hid k4
      have HPT := Lib.hid hPT
      have hb7 : Below w.heap.size w w7 := HBS2.out.trans (Below.less (HBA.out.trans (Below.less k6 (by rw [HSA.out]; omega))) (by rw [HSZ.out]; omega))
      have HB7 := Lib.hid hb7
      have hQ7 := (HBQS.out.below HBA.out (by rw [HSZ.out]; exact hwrs)).below k6 (by rw [HSA.out, HSZ.out]; omega)
      have HQ7 := Lib.hid hQ7
      clear hsb k1 k2 k3 k4 k5 k6 k7 hT7 hle7 hPT hb7 hQ7
      generalize List.length P7 = n7 at *
      go_wp2_with fail
      refine HSB.out.mono ?_
      rintro e w8 ⟨A8, c8, R8, rfl, m1, m2, m3, m4, m5, m6⟩
      have HB8 := Lib.hid (below_then HB7.out m5 HB7.out.size)
      have HQ8 := Lib.hid (HQ7.out.below m5 HQ7.out.lt)
      have M1 := Lib.hid m1
      have M3 := Lib.hid m3
      have M4 := Lib.hid m4
      have M6 := Lib.hid m6
      clear m1 m3 m4 m5 m6
      go_wp2_with fail
      go_roundw
      case rel =>
       have hnT := len_T t4 hM HM.out hTup.out
       have e1 := HTN.out
       have e2 := HPT.out
       have e3 := M4.out
       have e4 := M3.out
       have e5 := hbs.out.2
       rw [HP4.out] at e4
       have e6 : val4 M * (lo + 1) = val4 M * lo + val4 M := by rw [Nat.mul_add, Nat.mul_one]
       rw [e6] at e5
       have e7 : val4 R8 + val4 M * lo = nth L i + 10000 * val4 R := by rw [e4, HTV.out, HVAL3.out]
       exact ⟨i, Q.set i lo, A8, c8, R8, by omega, rfl, rfl, M1.out, m2, by omega, HQ8.out, by rw [List.length_set]; exact HQL.out, rq_step hin.out (by rw [HQL.out]; omega) (by omega) e7 (by omega), HB8.out, M6.out⟩
      case measure => simp [intOf]
set_option maxHeartbeats 3200000
set_option maxRecDepth 20000
def RqT (L M : List Nat) (w : World) (e : Ending) (w' : World) : Prop := ∃ (A1 : Option Addr) (c1 : Nat) (Q : List Nat) (A2 : Option Addr) (c2 : Nat) (R : List Nat), e = .returned (.tuple #[.slice A1 (List.length Q) c1, .slice A2 (List.length R) c2]) ∧
 Row .i64 w' w'.heap.size A2 c2 R ∧ Lim4 R ∧ Top R ∧ val4 R = val4 L % val4 M ∧ val4 R < val4 M ∧ Below w.heap.size w w'
theorem rquo_anyT (A A' : Option Addr) (c c' : Nat) (L M : List Nat) (w : World) (hl : L.length ≤ 100000) (_hml : M.length ≤ 100000) (hn0 : 0 < M.length) (hL : Lim4 L) (hM : Lim4 M) (htM : Top M) (htL : Top L)
  (hR : Row .i64 w w.heap.size A c L) (hR' : Row .i64 w w.heap.size A' c' M) :
  Calls Tryz.prog 68 #[.slice A L.length c, .slice A' M.length c'] w (RqT L M w) := by
 rcases Nat.lt_or_ge L.length M.length with h | h
 ·have hv := canon_lt4 hL htM h
  have hfin : ∀ W, Below w.heap.size w W → RqT L M w (.returned (.tuple #[.slice none 0 0, .slice A L.length c])) W := fun W hb =>
   ⟨none, 0, [], A, c, L, rfl, (hR.below hb).more hb.size, hL, htL, (Nat.mod_eq_of_lt hv).symm, hv, hb⟩
  have HF := Lib.hid hfin
  clear hfin hv
  generalize L.length = l at *
  generalize M.length = m at *
  go_enter Tryz.func68, Tryz.ntmps68
  go_wp2
  go_ret2
  exact HF.out _ (Below.refl _ _)
 ·refine (rquo_longT A A' c c' M.length L M w hl rfl hn0 h hL hM htM htL hR hR').mono ?_
  rintro e w' ⟨A1, c1, Q, A2, c2, R, rfl, -, k2, -, k4, k5, k6, -, -, k9, k10⟩
  exact ⟨A1, c1, Q, A2, c2, R, rfl, k2, k4, k10, by rw [← k5, Nat.mul_comm, Nat.mul_add_mod, Nat.mod_eq_of_lt k6], k6, k9⟩
structure CR (L M : List Nat) (w wr : World) (A1 : Option Addr) (c1 : Nat) (C : List Nat) (A2 : Option Addr) (c2 : Nat) (D : List Nat) : Prop where
 r1 : Row .i64 wr wr.heap.size A1 c1 C
 r2 : Row .i64 wr wr.heap.size A2 c2 D
 k1 : Lim4 C
 k2 : Lim4 D
 t1 : Top C
 t2 : Top D
 g : Nat.gcd (val4 C) (val4 D) = Nat.gcd (val4 L) (val4 M)
 lc : C.length ≤ L.length + M.length
 ld : D.length ≤ L.length + M.length
 bw : Below w.heap.size w wr
theorem cr_step {L M C D R : List Nat} {w wr w2 : World} {A1 A2 A3 : Option Addr} {c1 c2 c3 : Nat} (h : CR L M w wr A1 c1 C A2 c2 D) (i1 : Row .i64 w2 w2.heap.size A3 c3 R) (i2 : Lim4 R) (i3 : Top R) (i4 : val4 R = val4 C % val4 D) (i5 : val4 R < val4 D)
  (i6 : Below wr.heap.size wr w2) : CR L M w w2 A2 c2 D A3 c3 R := by
 refine ⟨h.r2.up i6, i1, h.k2, i2, h.t2, i3, ?_, h.ld, ?_, below_then h.bw i6 h.bw.size⟩
 ·rw [i4, Nat.gcd_comm, ← Nat.gcd_rec, Nat.gcd_comm, h.g]
 ·have := len_le4 h.k2 i3 (Nat.le_of_lt i5)
  have := h.ld
  omega
theorem zR_natAbs (n : Bool) (L : List Nat) : (zR n L).natAbs = val4 L := by unfold zR; split <;> simp
theorem rgcd_any (n m : Bool) (A A' : Option Addr) (c c' : Nat) (L M : List Nat) (w : World) (hl : L.length ≤ 50000) (hml : M.length ≤ 50000) (hL : RefR w w.heap.size n A c L) (hM : RefR w w.heap.size m A' c' M) :
  Calls Tryz.prog 45 #[.agg #[.bool n, .slice A L.length c], .agg #[.bool m, .slice A' M.length c']] w fun e w' => ∃ k A c R, e = .returned (.agg #[.bool k, .slice A R.length c]) ∧
   RefR w' w'.heap.size k A c R ∧ zR k R = (Int.gcd (zR n L) (zR m M) : Int) ∧ R.length ≤ L.length + M.length ∧ Below w.heap.size w w' := by
 have hgg : Nat.gcd (val4 L) (val4 M) = Int.gcd (zR n L) (zR m M) := by unfold Int.gcd; rw [zR_natAbs, zR_natAbs]
 have HGG := Lib.hid hgg
 clear hgg
 have hba := below_a3 w (.cells #[.bool n, .slice A L.length c] 33) (.cells #[.bool m, .slice A' M.length c'] 33) (.cells #[.bool false, .slice none 0 0] 33)
 have Y := three (Below.refl _ (((w.alloc (.cells #[.bool n, .slice A L.length c] 33)).alloc (.cells #[.bool m, .slice A' M.length c'] 33)).alloc (.cells #[.bool false, .slice none 0 0] 33)))
 have hbr := Box.new ((w.alloc (.cells #[.bool n, .slice A L.length c] 33)).alloc (.cells #[.bool m, .slice A' M.length c'] 33)) (.bool false) (.slice none 0 0) 33
 rw [show ((w.alloc (.cells #[.bool n, .slice A L.length c] 33)).alloc (.cells #[.bool m, .slice A' M.length c'] 33)).heap.size = w.heap.size + 1 + 1 by simp] at hbr
 have hsz : w.heap.size + 3 ≤ (((w.alloc (.cells #[.bool n, .slice A L.length c] 33)).alloc (.cells #[.bool m, .slice A' M.length c'] 33)).alloc (.cells #[.bool false, .slice none 0 0] 33)).heap.size := by simp
 have hlim1 := hL.lim
 have hlim2 := hM.lim
 have htp1 := hL.top
 have htp2 := hM.top
 generalize hl' : L.length = l at *
 generalize hm' : M.length = l2 at *
 have HLL := Lib.hid hl'
 have HML := Lib.hid hm'
 clear hl' hm'
 go_enter Tryz.func45, Tryz.ntmps45
 go_upto_region 1 with (fail)
 change Code.wp Tryz.prog _ _ _ (((w.alloc (.cells #[.bool n, .slice A l c] 33)).alloc (.cells #[.bool m, .slice A' l2 c'] 33)).alloc (.cells #[.bool false, .slice none 0 0] 33))
 generalize ((w.alloc (.cells #[.bool n, .slice A l c] 33)).alloc (.cells #[.bool m, .slice A' l2 c'] 33)).alloc (.cells #[.bool false, .slice none 0 0] 33) = W0 at *
 have x0 := Y.1
 have x1 := Y.2.1
 have x2 := Y.2.2.1
 have x3 := Y.2.2.2.1
 have hst : ∀ k, CR L M W0 (W0.drewN k) A c L A' c' M := fun k => ⟨(hL.row.up hba).drewN k, (hM.row.up hba).drewN k, hlim1, hlim2, by unfold Top; rw [HLL.out]; exact htp1, by unfold Top; rw [HML.out]; exact htp2, rfl, by omega, by omega, below_drewN (Below.refl _ _) k⟩
 have HST := Lib.hid hst
 have HBR := Lib.hid hbr
 have HBA := Lib.hid hba
 clear Y hbr hba hL hM hlim1 hlim2 htp1 htp2 hst
 go_quiet (fail)
 go_wp2_with fail
 go_loopw [5, 6] (fun av bv wr => ∃ A1 c1 C A2 c2 D, av = .slice A1 (List.length C) c1 ∧ bv = .slice A2 (List.length D) c2 ∧ Hid (CR L M W0 wr A1 c1 C A2 c2 D)) (fun _ bv wr => val4 (readRow wr bv))
 case atStart => exact ⟨A, c, L, A', c', M, by rw [HLL.out], by rw [HML.out], HST.out _⟩
 case round =>
  obtain ⟨A1, c1, C, A2, c2, D, rfl, rfl, hcs⟩ := hrel
  have hcl := hcs.out.lc
  have hdl := hcs.out.ld
  rw [HLL.out, HML.out] at hcl hdl
  have hm2 := congrArg val4 (readRow_row hcs.out.r2)
  have hdiv : 0 < D.length → Calls Tryz.prog 68 #[.slice A1 C.length c1, .slice A2 D.length c2] wr (RqT C D wr) := fun h0 =>
   rquo_anyT A1 A2 c1 c2 C D wr (by omega) (by omega) h0 hcs.out.k1 hcs.out.k2 hcs.out.t2 hcs.out.t1 hcs.out.r1 hcs.out.r2
  have hzero : D.length = 0 → val4 C = Nat.gcd (val4 L) (val4 M) := fun h0 => by
   have : D = [] := List.eq_nil_of_length_eq_zero h0
   rw [← hcs.out.g, this]; simp [valB]
  have hsg := rsigned_int false A1 c1 C
  have HM2 := Lib.hid hm2
  have HDIV := Lib.hid hdiv
  have HZERO := Lib.hid hzero
  clear hm2 hdiv hzero hsg
  generalize hlc : C.length = lc at *
  generalize hld : D.length = ld at *
  have HLC := Lib.hid hlc
  have HLD := Lib.hid hld
  clear hlc hld
  rcases Nat.eq_zero_or_pos ld with h0 | h0
  ·have hz := HZERO.out h0
   subst h0
   have HZ := Lib.hid hz
   have hb := HBR.out.below hcs.out.bw (by omega)
   have hbw := below_then HBA.out hcs.out.bw HBA.out.size
   clear hz HDIV HZERO
   have hsg := fun W (h : Below wr.heap.size wr W) => rsigned_int false A1 c1 C W (by rw [HLC.out]; omega) hcs.out.k1 (hcs.out.r1.up h)
   rw [HLC.out] at hsg
   have HSG := Lib.hid hsg
   have HB0 := Lib.hid hb
   have HBW := Lib.hid hbw
   clear hsg hb hbw
   go_wp2_with fail
   refine (HSG.out _ (Below.refl _ _)).mono ?_
   rintro e w2 ⟨T, rfl, i1, i2, i3, i4⟩
   have b2 := HB0.out.below i4 (by have := hcs.out.bw.size; omega)
   have HB2 := Lib.hid b2
   have HI := Lib.hid i1
   have HV := Lib.hid i2
   have HL3 := Lib.hid i3
   have HBW2 := Lib.hid (below_then HBW.out i4 HBW.out.size)
   have y0 := b2.c0
   have y1 := b2.c1
   have z0 := b2.f0
   have z1 := b2.f1
   clear i1 i2 i3 i4 b2
   generalize hlt : List.length T = lt at *
   have HLT := Lib.hid hlt
   clear hlt
   go_wp2_with fail
   have hi := HI.out
   have hv := HV.out
   rw [Bool.false_and] at hi hv
   simp only [Bool.false_eq_true, if_false] at hv
   refine bodyPost_ret (v := .agg #[.bool false, .slice A1 lt c1]) (by simp [results, Tryz.results45, go_sem, y0, y1]) rfl ⟨false, A1, c1, T, by rw [HLT.out], ?_, by rw [hv, ← HGG.out, HZ.out], by have := HL3.out; rw [HLT.out]; omega, (HBW2.out.setCell (by simp; omega) _).setCell (by simp; omega) _⟩
   rw [setCell_size, setCell_size]
   exact RefR.pair HB2.out hi _ _
  ·have h0i : (0 : Int) < (ld : Int) := by omega
   have hdv := HDIV.out h0
   have HDV := Lib.hid hdv
   clear hdv HDIV HZERO
   go_wp2_with fail
   refine HDV.out.mono ?_
   rintro e w2 ⟨A3, c3, Q, A4, c4, R, rfl, i1, i2, i3, i4, i5, i6⟩
   have HN := Lib.hid (cr_step hcs.out i1 i2 i3 i4 i5 i6)
   have HM3 := Lib.hid (congrArg val4 (readRow_row i1))
   have HM4 := Lib.hid i5
   clear i1 i2 i3 i4 i5 i6
   go_wp2_with fail
   go_roundw
   case rel => exact ⟨A2, c2, D, A4, c4, R, by rw [HLD.out], rfl, HN.out⟩
   case measure =>
    show val4 (readRow w2 (.slice A4 (List.length R) c4)) < val4 (readRow wr (.slice A2 ld c2))
    rw [HM3.out, HM2.out]
    exact HM4.out
theorem rgcd_fact {x y : Int} {n m : Nat} {a b : Value} {w : World} (h1 : PRef x n a w) (h2 : PRef y m b w) (hn : n ≤ 50000) (hm : m ≤ 50000) :
  Calls Tryz.prog 45 #[a, b] w fun e w' => ∃ v, e = .returned v ∧ PRef (Int.gcd x y : Int) (n + m) v w' ∧ Below w.heap.size w w' := by
 obtain ⟨k, A, c, L, rfl, i1, rfl, l1⟩ := h1
 obtain ⟨k2, A2, c2, L2, rfl, i2, rfl, l2⟩ := h2
 refine (rgcd_any k k2 A A2 c c2 L L2 w (by omega) (by omega) i1 i2).mono ?_
 rintro e w' ⟨q, B, d, R, rfl, hi, hz, hl, hb⟩
 exact ⟨_, rfl, ⟨q, B, d, R, rfl, hi, hz, by omega⟩, hb⟩
end Go.Proofs.YtodapfhnbgoanaaGreatDoor
