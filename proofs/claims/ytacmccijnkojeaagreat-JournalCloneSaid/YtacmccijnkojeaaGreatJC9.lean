/- Contracts of the functions that the statements reach, part 9: what was proved of each, callees first. -/
import Derived.Test.YtacmccijnkojeaaGreatJC8
namespace Go.Proofs.YtacmccijnkojeaaGreat
open Go.RowKit Go.Maps
def adJ (b n : Nat) (f g : Int → Option Value) (w0 : World) (k : Nat) (_ : List Value) (W : World) : Prop := Only (fun i => i = b) w0 W ∧ (match k with | 0 => MapV W b n f | _ + 1 => MapV W b (n + 1) g)
theorem adJ.st (b n : Nat) (f g : Int → Option Value) (w0 : World) : ∀ k l W W', Below W.heap.size W W' → adJ b n f g w0 k l W → adJ b n f g w0 k l W'
 | 0, _, _, _, hb, h => ⟨h.1.trans (Only.of hb), h.2.up hb⟩
 | _ + 1, _, _, _, hb, h => ⟨h.1.trans (Only.of hb), h.2.up hb⟩
def rowS (j : JD) (k : Nat) : Prop := (Value.slice j.A j.n j.c).ownBlock = some k
def adJ2 (w0 : World) (j : JD) (B : Nat) (x : Ety) : Nat → List Value → World → Prop
 | 0, _, W => Below w0.heap.size w0 W
 | 1, l, W => Below w0.heap.size w0 W ∧ ∀ v, l = [v] → ∃ g, v = .slice (some ⟨g, 0, none⟩) 1 1 ∧ w0.heap.size ≤ g ∧ Wh 42 W g (etyC x)
 | 2, l, W => Only (rowS j) w0 W ∧ ∀ v, l = [v] → OwnR lyX 42 W B v (j.Xs.map (·.1) ++ [x]) ∧ (∀ g, v.ownBlock = some g → rowS j g ∨ w0.heap.size ≤ g)
 | _ + 3, _, W => Only (fun k => k = j.b ∨ rowS j k) w0 W ∧ ∃ A c, Wh 57 W j.b (grpC j.g ++ [.slice A (j.Xs.map (·.1) ++ [x]).length c, .map (some j.bi), .map (some j.br)]) ∧ OwnR lyX 42 W B (.slice A (j.Xs.map (·.1) ++ [x]).length c) (j.Xs.map (·.1) ++ [x]) ∧ (∀ g, (Value.slice A (j.Xs.map (·.1) ++ [x]).length c).ownBlock = some g → rowS j g ∨ w0.heap.size ≤ g)
theorem adJ2.st (w0 : World) (j : JD) (B : Nat) (x : Ety) : ∀ k l W W', Below W.heap.size W W' → adJ2 w0 j B x k l W → adJ2 w0 j B x k l W'
 | 0, _, _, _, hb, h => Below.trans h (hb.mono (Below.size h))
 | 1, _, _, _, hb, h => ⟨h.1.trans (hb.mono h.1.size), fun v hv => by obtain ⟨g, h1, h2, h3⟩ := h.2 v hv; exact ⟨g, h1, h2, h3.up hb⟩⟩
 | 2, _, _, _, hb, h => ⟨h.1.trans (Only.of hb), fun v hv => ⟨(h.2 v hv).1.up hb, (h.2 v hv).2⟩⟩
 | _ + 3, _, _, _, hb, h => by
  obtain ⟨h0, A, c, h1, h2, h3⟩ := h
  exact ⟨h0.trans (Only.of hb), A, c, h1.up hb, h2.up hb, h3⟩
section
variable {w0 w W : World} {j : JD} {B k : Nat} {x : Ety} {l : List Value}
theorem adJ2.low (h : adJ2 w0 j B x k l W) (hk : k ≤ 1) : Below w0.heap.size w0 W := by
 match k, hk with
 | 0, _ => exact h
 | 1, _ => exact h.1
theorem adJ2.one (h : Below w0.heap.size w0 W) : adJ2 w0 j B x 1 [.slice (some ⟨W.heap.size, 0, none⟩) 1 1] (W.alloc (.cells (etyC x).toArray 42)) :=
 ⟨h.trans ((below_alloc_new _).mono h.size), fun v hv => by cases hv; exact ⟨_, rfl, h.size, Wh.new W 42 (etyC x)⟩⟩
theorem adJ2.two {v : Value} (h : Below w0.heap.size w0 w) (ho : OwnR lyX 42 W B v (j.Xs.map (·.1) ++ [x])) (hg : w.grownBy W (Value.slice j.A j.n j.c).ownBlock) (hb : v.ownBlock = (Value.slice j.A j.n j.c).ownBlock ∨ v.ownBlock = some w.heap.size) : adJ2 w0 j B x 2 [v] W :=
 ⟨(Only.of h).trans (Only.grown hg fun k hk => hk), fun v' hv => by
  cases hv
  refine ⟨ho, fun g hg2 => ?_⟩
  rcases hb with hb | hb
  ·exact .inl (by unfold rowS; rw [← hb]; exact hg2)
  ·rw [hb] at hg2
   injection hg2 with hg2
   exact .inr (by rw [← hg2]; exact h.size)⟩
theorem adJ2.three {A : Option Addr} {c : Nat} (ho : Only (rowS j) w0 W) (hr : OwnR lyX 42 W B (.slice A (j.Xs.map (·.1) ++ [x]).length c) (j.Xs.map (·.1) ++ [x])) (hn : ∀ g, (Value.slice A (j.Xs.map (·.1) ++ [x]).length c).ownBlock = some g → rowS j g ∨ w0.heap.size ≤ g)
  (hb : Wh 57 W j.b (JC j)) (hnr : ¬ rowS j j.b) (hlt : j.b < w0.heap.size) : adJ2 w0 j B x 3 [] (W.setCell ⟨j.b, 21, none⟩ (.slice A (j.Xs.map (·.1) ++ [x]).length c)) := by
 refine ⟨(ho.wide fun k _ hk => .inr hk).trans (Only.setCell W (a := ⟨j.b, 21, none⟩) (.inl rfl) _), A, c, hb.set 21 _, hr.blk fun g hg => Below.heap_setCell W ⟨j.b, 21, none⟩ _ g (fun e => ?_), hn⟩
 have e2 : g = j.b := e
 rcases hn g hg with h | h
 ·exact hnr (by rw [← e2]; exact h)
 ·omega
end
def adF1 (j : JD) (s0 : Nat) (x : Ety) : List (Nat × AK.Fact (SizeUp)) := [(4, AK.Fact.is (.pointer (some ⟨j.b, 0, none⟩))), (5, AK.Fact.is (.pointer (some ⟨j.b, 0, none⟩))), (6, AK.Fact.is (.pointer (some ⟨j.b, 22, none⟩))), (7, AK.Fact.is (.map (some j.bi))), (8, AK.Fact.is (.pointer (some ⟨s0, 0, none⟩))), (9, AK.Fact.is (.int .i64 x.id)), (10, AK.Fact.is (.pointer (some ⟨j.b, 0, none⟩))), (11, AK.Fact.is (.pointer (some ⟨j.b, 0, none⟩))), (12, AK.Fact.is (.pointer (some ⟨j.b, 21, none⟩))), (13, AK.Fact.is (.slice j.A j.n j.c)), (14, AK.Fact.is (.int .i64 (j.n : Int)))]
def adF2 (j : JD) (_s0 : Nat) (x : Ety) : List (Nat × AK.Fact (SizeUp)) := [(15, AK.Fact.is (.pointer (some ⟨j.b, 0, none⟩))), (16, AK.Fact.is (.pointer (some ⟨j.b, 0, none⟩))), (17, AK.Fact.is (.pointer (some ⟨j.b, 0, none⟩))), (18, AK.Fact.is (.pointer (some ⟨j.b, 21, none⟩))), (19, AK.Fact.is (.slice j.A j.n j.c)), (20, AK.Fact.is (.agg #[.int .i64 x.id, .int .i64 x.ent, .int .i64 x.day, .int .i64 x.kind, .int .i64 x.of_, .string x.txt, .slice x.A x.n x.c])), (21, AK.Fact.triv), (22, AK.Fact.triv), (23, AK.Fact.is (.pointer (some ⟨j.b, 0, none⟩))), (24, AK.Fact.is (.pointer (some ⟨j.b, 21, none⟩)))]
def adF4 (j : JD) (s0 : Nat) (x : Ety) : List (Nat × AK.Fact (SizeUp)) := [(28, AK.Fact.is (.pointer (some ⟨j.b, 0, none⟩))), (29, AK.Fact.is (.pointer (some ⟨j.b, 0, none⟩))), (30, AK.Fact.is (.pointer (some ⟨j.b, 23, none⟩))), (31, AK.Fact.is (.map (some j.br))), (32, AK.Fact.is (.pointer (some ⟨s0, 4, none⟩))), (33, AK.Fact.is (.int .i64 x.of_)), (34, AK.Fact.is (.pointer (some ⟨s0, 0, none⟩))), (35, AK.Fact.is (.int .i64 x.id))]
def JD.add (j : JD) (x : Ety) (X : List Lnk) (A : Option Addr) (c : Nat) : JD := { j with A := A, n := j.n + 1, c := c, Xs := j.Xs ++ [(x, X)] }
theorem JD.add_es (j : JD) (x : Ety) (X : List Lnk) (A : Option Addr) (c : Nat) : (j.add x X A c).Es = j.Es ++ [pe (x, X)] := by
 show (j.Xs ++ [(x, X)]).map pe = _
 rw [List.map_append]
 rfl
def MA (M : Nat → Prop) (j : JD) (A : Option Addr) (c : Nat) (k : Nat) : Prop := M k ∨ (Value.slice A (j.n + 1) c).ownBlock = some k
theorem jk_add {M : Nat → Prop} {B : Nat} {w W : World} {j : JD} {x : Ety} {X : List Lnk} {A : Option Addr} {c : Nat} (hj : JK M B w j) (ho : Only M w W) (hx : Im M (fun w => EtyK w x X) w)
  (hbx : Wh 57 W j.b (JC (j.add x X A c))) (hr : OwnR lyX 42 W B (.slice A (j.n + 1) c) ((j.Xs ++ [(x, X)]).map (·.1))) (hA : ∀ g, (Value.slice A (j.n + 1) c).ownBlock = some g → M g ∨ w.heap.size ≤ g)
  (hi : MapV W j.bi (j.n + 1) (idxF (j.Es ++ [pe (x, X)]))) (hv : MapV W j.br (j.n + 1) (revF (j.Es ++ [pe (x, X)]))) (hp : 1 ≤ x.id) (hwf : (Lit.int .i64 x.id).wf = true) (hl : X.length ≤ 1000) : JK (MA M j A c) B W (j.add x X A c) := by
 have hM : ∀ k, k < w.heap.size → MA M j A c k → M k := fun k hk h => by
  rcases h with h | h
  ·exact h
  ·rcases hA k h with h | h
   ·exact h
   ·omega
 refine ⟨hbx, hr, ?_, ?_, ?_, hj.grp.step ho hM, ?_, .inl hj.mb, .inl hj.mi, .inl hj.mr, (fun k hk => .inr hk), hj.ne, hj.hs, hj.hw, ?_⟩
 ·show (j.Xs ++ [(x, X)]).length = j.n + 1
  rw [List.length_append, hj.ln]; rfl
 ·rw [JD.add_es]; exact hi
 ·rw [JD.add_es]; exact hv
 ·refine ((hj.ets.step ho hM).both (hx.step ho hM)).imp fun w' h p hp => ?_
  rcases List.mem_append.1 hp with h1 | h1
  ·exact h.1 p h1
  ·simp at h1; rw [h1]; exact h.2
 ·rw [JD.add_es]
  refine ⟨fun e he => ?_, fun e he => ?_, fun e he => ?_⟩
  all_goals rcases List.mem_append.1 he with h1 | h1
  ·exact hj.good.pos e h1
  ·simp at h1; rw [h1]; exact hp
  ·exact hj.good.wf e h1
  ·simp at h1; rw [h1]; exact hwf
  ·exact hj.good.ln e h1
  ·simp at h1; rw [h1]; exact hl
theorem idx_add {Es : List PE} {p : PE} {n : Nat} {w : World} {b m : Nat} (hn : Es.length = n) (h : MapV w b m (fun c => if c = p.id then some (.int .i64 (n : Int)) else idxF Es c)) (hf : ¬ idxP Es p.id < Es.length) : MapV w b m (idxF (Es ++ [p])) := by
 refine h.ext fun c => ?_
 rw [idxF_snoc hf, hn]
set_option maxRecDepth 100000 in
set_option maxHeartbeats 6400000 in
theorem jadd_any {M : Nat → Prop} {B : Nat} (j : JD) (x : Ety) (X : List Lnk) (w : World) (hj : JK M B w j) (hx : Im M (fun w => EtyK w x X) w) (hBw : B ≤ w.heap.size) (hwi : (Lit.int .i64 x.id).wf = true) (hwo : (Lit.int .i64 x.of_).wf = true) (hp : 1 ≤ x.id) (hl : X.length ≤ 1000) (hn : j.n < 2000)
  (hf : ¬ idxP j.Es x.id < j.Es.length) (hrv : x.kind = 3 → revO j.Es x.of_ = none) : Calls Tryz.prog 28 #[.pointer (some ⟨j.b, 0, none⟩), etyV x] w fun e w' => e = .returned (.tuple #[]) ∧ ∃ A c, JK (MA M j A c) B w' (j.add x X A c) ∧ Only M w w' ∧ (∀ g, (Value.slice A (j.n + 1) c).ownBlock = some g → M g ∨ w.heap.size ≤ g) := by
 obtain ⟨i0, hi, hz1, hz2, hz3⟩ := info_parts infoEx
 obtain ⟨xs, hxs⟩ : ∃ xs, (etyC x).toArray = xs := ⟨_, rfl⟩
 have hxV : etyV x = .agg xs := by rw [etyV_is, hxs]
 rw [hxV]
 obtain ⟨s0, hs0⟩ : ∃ s0, w.heap.size = s0 := ⟨_, rfl⟩
 obtain ⟨w2, hw2⟩ : ∃ w2, w.alloc (.cells xs 42) = w2 := ⟨_, rfl⟩
 have HXB : Hid (Wh 42 w2 s0 (etyC x)) := Lib.hid (by rw [← hw2, ← hs0, ← hxs]; exact Wh.new w _ _)
 have HB2 : Hid (Below w.heap.size w w2) := Lib.hid (by rw [← hw2]; exact below_alloc_new _)
 have HS2 : Hid (w2.heap.size = s0 + 1) := Lib.hid (by rw [← hw2, ← hs0]; simp)
 have HS0 := Lib.hid hs0
 have HJ := Lib.hid hj
 have HX := Lib.hid hx
 have HF := Lib.hid hf
 have HRO := Lib.hid hrv
 have HP := Lib.hid hp
 have HL := Lib.hid hl
 have HWI := Lib.hid hwi
 have HWO := Lib.hid hwo
 have HN := Lib.hid hn
 have HBB := Lib.hid hBw
 have hbl : j.b < s0 := by rw [← hs0]; exact hj.box.lt
 have hil : j.bi < s0 := by rw [← hs0]; exact hj.idx.lt
 have hrl : j.br < s0 := by rw [← hs0]; exact hj.rev.lt
 have HBX : Hid (Wh 57 w2 j.b (JC j)) := Lib.hid (hj.box.up HB2.out)
 have HIX : Hid (MapV w2 j.bi j.n (idxF j.Es)) := Lib.hid (hj.idx.up HB2.out)
 have HNB : Hid (¬ j.b = j.bi) := Lib.hid hj.b_map.1
 have HNX : Hid (¬ s0 = j.bi) := Lib.hid (by omega)
 have HNB4 : Hid (¬ j.b = j.br) := Lib.hid hj.b_map.2
 have HNX4 : Hid (¬ s0 = j.br) := Lib.hid (by omega)
 have HNR : Hid (¬ rowS j j.b) := Lib.hid (fun h => hj.b_row _ h rfl)
 have HLR : Hid (∀ k, rowS j k → k < s0 ∧ k ≠ j.bi ∧ k ≠ j.br) := Lib.hid (fun k hk => ⟨by rw [← hs0]; exact (hj.row.lt hk).2, hj.i_row k hk⟩)
 have HLL : Hid (j.b < s0 ∧ j.bi < s0 ∧ j.br < s0) := Lib.hid ⟨hbl, hil, hrl⟩
 have HLN : Hid (j.Xs.length = j.n) := Lib.hid hj.ln
 have c0 := HXB.out.at 0 _ rfl
 clear hj hx hf hrv hp hl hwi hwo hBw hbl hil hrl hxV hxs hn
 go_enter Tryz.func28, Tryz.ntmps28
 go_wp2_with fail
 refine AK.region_facts (Rp := Below0) (Kp := SizeUp) (adF1 j s0 x) (adJ j.bi j.n (idxF j.Es) (fun c => if c = x.id then some (.int .i64 (j.n : Int)) else idxF j.Es c) w2) [[], [4], [5], [6], [], [8], [], [10], [11], [12], [13], [7, 9, 14]] [11] [[], []] [1, 1, 1, 1, 1, 1, 1, 1, 1, 1, 1, 1] [0, 0, 0, 0, 0, 0, 0, 0, 0, 0, 0, 0] [] (fun u => by simp only [adF1, AK.temps, List.map_cons, List.map_nil, fillL, List.setIfInBounds_toArray, List.set_cons_zero, List.set_cons_succ]; rfl) (by kernel_rfl) (by kernel_rfl) (fun _ _ h => h) (fun _ _ h => h.size) (adJ.st _ _ _ _ _) (⟨(Only.refl _).drew, HIX.out.up (dc_drew (Below.refl _ _))⟩) ?_ ?_
 ·refine AK.sc (lim := 1) (lo := 0) rfl rfl rfl rfl ?_ ?_
  ·intro k_ u w_ hk_ hl_ hJ hF K hK
   clear hF
   go_simp
   exact hK.out _ _ bR (rfl) trivial
  refine AK.sc (lim := 1) (lo := 0) rfl rfl rfl rfl ?_ ?_
  ·intro k_ u w_ hk_ hl_ hJ hF K hK
   have h4 : u 4 = .pointer (some ⟨j.b, 0, none⟩) := AK.facts_get hF 4 (by simp)
   clear hF
   simp only [h4] at hK ⊢
   clear h4
   go_simp
   exact hK.out _ _ bR (rfl) trivial
  refine AK.sc (lim := 1) (lo := 0) rfl rfl rfl rfl ?_ ?_
  ·intro k_ u w_ hk_ hl_ hJ hF K hK
   have h5 : u 5 = .pointer (some ⟨j.b, 0, none⟩) := AK.facts_get hF 5 (by simp)
   clear hF
   simp only [h5] at hK ⊢
   clear h5
   go_simp
   exact hK.out _ _ bR (rfl) trivial
  refine AK.sc (lim := 1) (lo := 0) rfl rfl rfl rfl ?_ ?_
  ·intro k_ u w_ hk_ hl_ hJ hF K hK
   have h6 : u 6 = .pointer (some ⟨j.b, 22, none⟩) := AK.facts_get hF 6 (by simp)
   clear hF
   simp only [h6] at hK ⊢
   clear h6
   have c_ := (HBX.out.only hJ.1 HNB.out).at 22 _ rfl
   go_simp
   exact hK.out _ _ bR (rfl) trivial
  refine AK.sc (lim := 1) (lo := 0) rfl rfl rfl rfl ?_ ?_
  ·intro k_ u w_ hk_ hl_ hJ hF K hK
   clear hF
   go_simp
   exact hK.out _ _ bR (rfl) trivial
  refine AK.sc (lim := 1) (lo := 0) rfl rfl rfl rfl ?_ ?_
  ·intro k_ u w_ hk_ hl_ hJ hF K hK
   have h8 : u 8 = .pointer (some ⟨s0, 0, none⟩) := AK.facts_get hF 8 (by simp)
   clear hF
   simp only [h8] at hK ⊢
   clear h8
   have c_ := (HXB.out.only hJ.1 HNX.out).at 0 _ rfl
   go_simp
   exact hK.out _ _ bR (rfl) trivial
  refine AK.sc (lim := 1) (lo := 0) rfl rfl rfl rfl ?_ ?_
  ·intro k_ u w_ hk_ hl_ hJ hF K hK
   clear hF
   go_simp
   exact hK.out _ _ bR (rfl) trivial
  refine AK.sc (lim := 1) (lo := 0) rfl rfl rfl rfl ?_ ?_
  ·intro k_ u w_ hk_ hl_ hJ hF K hK
   have h10 : u 10 = .pointer (some ⟨j.b, 0, none⟩) := AK.facts_get hF 10 (by simp)
   clear hF
   simp only [h10] at hK ⊢
   clear h10
   go_simp
   exact hK.out _ _ bR (rfl) trivial
  refine AK.sc (lim := 1) (lo := 0) rfl rfl rfl rfl ?_ ?_
  ·intro k_ u w_ hk_ hl_ hJ hF K hK
   have h11 : u 11 = .pointer (some ⟨j.b, 0, none⟩) := AK.facts_get hF 11 (by simp)
   clear hF
   simp only [h11] at hK ⊢
   clear h11
   go_simp
   exact hK.out _ _ bR (rfl) trivial
  refine AK.sc (lim := 1) (lo := 0) rfl rfl rfl rfl ?_ ?_
  ·intro k_ u w_ hk_ hl_ hJ hF K hK
   have h12 : u 12 = .pointer (some ⟨j.b, 21, none⟩) := AK.facts_get hF 12 (by simp)
   clear hF
   simp only [h12] at hK ⊢
   clear h12
   have c_ := (HBX.out.only hJ.1 HNB.out).at 21 _ rfl
   go_simp
   exact hK.out _ _ bR (rfl) trivial
  refine AK.sc (lim := 1) (lo := 0) rfl rfl rfl rfl ?_ ?_
  ·intro k_ u w_ hk_ hl_ hJ hF K hK
   have h13 : u 13 = .slice j.A j.n j.c := AK.facts_get hF 13 (by simp)
   clear hF
   simp only [h13] at hK ⊢
   clear h13
   go_simp
   exact hK.out _ _ bR (rfl) trivial
  refine AK.ss rfl rfl ?_ ?_
  ·intro u w_ hJ hA_ hF K hK
   have h7 : u 7 = .map (some j.bi) := AK.facts_get hF 7 (by simp)
   have h9 : u 9 = .int .i64 x.id := AK.facts_get hF 9 (by simp)
   have h14 : u 14 = .int .i64 (j.n : Int) := AK.facts_get hF 14 (by simp)
   clear hF
   simp only [h7, h9, h14] at hK ⊢
   clear h7 h9 h14
   have hJ1 := hJ.1
   refine wp_mapv_put _ _ _ rfl j.bi j.n (idxF j.Es) rfl hJ.2 x.id rfl (.int .i64 (j.n : Int)) rfl HWI.out (by have := HN.out; omega) ?_
   intro w' hm' hg'
   exact hK.out _ _ ⟨hJ.1.trans (Only.grown hg' (fun k hk => by injection hk with hk; exact hk.symm)), hm'⟩ (hg'.size) trivial
  exact AK.StepsOk.nil
 ·intro u W9 hJ9 hF
  clear hF
  obtain ⟨ho3, hm3⟩ := hJ9
  have HO3 := Lib.hid ho3
  have HM3 : Hid (MapV W9 j.bi (j.n + 1) (fun c => if c = x.id then some (.int .i64 (j.n : Int)) else idxF j.Es c)) := Lib.hid hm3
  have HXB3 := Lib.hid (HXB.out.only ho3 HNX.out)
  have HBX3 := Lib.hid (HBX.out.only ho3 HNB.out)
  have hO02 : Only M w w2 := Only.of HB2.out
  have HRV3 : Hid (MapV W9 j.br j.n (revF j.Es)) := Lib.hid ((HJ.out.rev.up HB2.out).blk (ho3.blk _ (by have := HLL.out; have := HS2.out; omega) (fun e => HJ.out.ne e.symm)))
  have HRW : Hid (OwnR lyX 42 W9 B (.slice j.A j.n j.c) (j.Xs.map (·.1))) := Lib.hid ((HJ.out.row.up HB2.out).blk fun g hg => ho3.blk g (by have := (HLR.out g hg).1; have := HS2.out; omega) (HLR.out g hg).2.1)
  have HBW : Hid (B ≤ W9.heap.size) := Lib.hid (by have := ho3.size; have := HB2.out.size; have := HBB.out; omega)
  have HBW2 : Hid (j.b < W9.heap.size) := Lib.hid (by have := ho3.size; have := HLL.out; have := HS2.out; omega)
  have HSZ3 : Hid (s0 + 1 ≤ W9.heap.size) := Lib.hid (by have := ho3.size; have := HS2.out; omega)
  clear ho3 hm3 hO02 HXB HBX HIX c0 hw2
  have HXB := HXB3
  have HBX := HBX3
  clear HXB3 HBX3
  obtain ⟨w3, hw3⟩ : ∃ w3, W9 = w3 := ⟨_, rfl⟩
  subst hw3
  go_wp2_with fail
  refine AK.region_facts (Rp := Below0) (Kp := SizeUp) (adF2 j s0 x) (adJ2 W9 j B x) [[], [], [16], [17], [18], [], [20], [19, 21], [15], [23], [24, 22]] [6, 7, 10] [[], [21], [22], []] [3, 3, 3, 3, 1, 0, 3, 3, 3, 3, 3] [0, 0, 0, 0, 0, 0, 0, 0, 0, 0, 0] [] (fun u => by simp only [adF2, AK.temps, List.map_cons, List.map_nil, fillL, List.setIfInBounds_toArray, List.set_cons_zero, List.set_cons_succ]; rfl) (by kernel_rfl) (by kernel_rfl) (fun _ _ h => h) (fun _ _ h => h.size) (adJ2.st _ _ _ _) (dc_drew (Below.refl _ _)) ?_ ?_
  ·refine AK.sc (lim := 3) (lo := 0) rfl rfl rfl rfl ?_ ?_
   ·intro k_ u w_ hk_ hl_ hJ hF K hK
    clear hF
    go_simp
    exact hK.out _ _ bR (rfl) trivial
   refine AK.sc (lim := 3) (lo := 0) rfl rfl rfl rfl ?_ ?_
   ·intro k_ u w_ hk_ hl_ hJ hF K hK
    clear hF
    go_simp
    exact hK.out _ _ bR (rfl) trivial
   refine AK.sc (lim := 3) (lo := 0) rfl rfl rfl rfl ?_ ?_
   ·intro k_ u w_ hk_ hl_ hJ hF K hK
    have h16 : u 16 = .pointer (some ⟨j.b, 0, none⟩) := AK.facts_get hF 16 (by simp)
    clear hF
    simp only [h16] at hK ⊢
    clear h16
    go_simp
    exact hK.out _ _ bR (rfl) trivial
   refine AK.sc (lim := 3) (lo := 0) rfl rfl rfl rfl ?_ ?_
   ·intro k_ u w_ hk_ hl_ hJ hF K hK
    have h17 : u 17 = .pointer (some ⟨j.b, 0, none⟩) := AK.facts_get hF 17 (by simp)
    clear hF
    simp only [h17] at hK ⊢
    clear h17
    go_simp
    exact hK.out _ _ bR (rfl) trivial
   refine AK.sc (lim := 1) (lo := 0) rfl rfl rfl rfl ?_ ?_
   ·intro k_ u w_ hk_ hl_ hJ hF K hK
    have h18 : u 18 = .pointer (some ⟨j.b, 21, none⟩) := AK.facts_get hF 18 (by simp)
    clear hF
    simp only [h18] at hK ⊢
    clear h18
    have hb9 := adJ2.low hJ (by omega)
    have c_ := (HBX.out.up hb9).at 21 _ rfl
    go_simp
    exact hK.out _ _ bR (rfl) trivial
   refine AK.sc (lim := 0) (lo := 0) rfl rfl rfl rfl ?_ ?_
   ·intro k_ u w_ hk_ hl_ hJ hF K hK
    obtain rfl : k_ = 0 := by omega
    clear hF
    have hb9 := adJ2.low hJ (by omega)
    refine wp_load_is 42 _ rfl (.pointer (some ⟨s0, 0, none⟩)) rfl (.agg #[.int .i64 x.id, .int .i64 x.ent, .int .i64 x.day, .int .i64 x.kind, .int .i64 x.of_, .string x.txt, .slice x.A x.n x.c]) ((HXB.out.up hb9).rg.load 0 42 (etyC x) rfl _ Tryz.underlying42 rfl (by kernel_rfl)) ?_
    exact hK.out _ _ bR (rfl) trivial
   refine AK.ss rfl rfl ?_ ?_
   ·intro u w_ hJ hA_ hF K hK
    have h20 : u 20 = .agg #[.int .i64 x.id, .int .i64 x.ent, .int .i64 x.day, .int .i64 x.kind, .int .i64 x.of_, .string x.txt, .slice x.A x.n x.c] := AK.facts_get hF 20 (by simp)
    clear hF
    simp only [h20] at hK ⊢
    clear h20
    go_simp
    exact hK.out _ _ (adJ2.one (adJ2.low hJ (by omega))) (by simp) trivial
   refine AK.ss rfl rfl ?_ ?_
   ·intro u w_ hJ hA_ hF K hK
    have h19 : u 19 = .slice j.A j.n j.c := AK.facts_get hF 19 (by simp)
    clear hF
    obtain ⟨hb9, hl9⟩ := hJ
    obtain ⟨g9, hv9, hg9, hw9⟩ := hl9 _ rfl
    simp only [h19, hv9] at hK ⊢
    clear h19 hv9
    refine wp_app_row (R := lyX) (v := .slice j.A j.n j.c) (.tmp 19) (.tmp 21) 30 rfl i0 _ 80 Tryz.underlying30 hi hz1 hz2 hz3 (by omega) rfl rfl (HRW.out.up hb9) (some ⟨g9, 0, none⟩) 1 1 [x] rfl rfl (row_one hw9) (by have := HLN.out; have := HN.out; simp; omega) (by have := hb9.size; have := HBW.out; omega) ?_
    intro v' w' ho' hg' hb'
    exact hK.out _ _ (adJ2.two hb9 ho'.out hg'.out hb'.out) (hg'.out.size) trivial
   refine AK.sc (lim := 3) (lo := 0) rfl rfl rfl rfl ?_ ?_
   ·intro k_ u w_ hk_ hl_ hJ hF K hK
    have h15 : u 15 = .pointer (some ⟨j.b, 0, none⟩) := AK.facts_get hF 15 (by simp)
    clear hF
    simp only [h15] at hK ⊢
    clear h15
    go_simp
    exact hK.out _ _ bR (rfl) trivial
   refine AK.sc (lim := 3) (lo := 0) rfl rfl rfl rfl ?_ ?_
   ·intro k_ u w_ hk_ hl_ hJ hF K hK
    have h23 : u 23 = .pointer (some ⟨j.b, 0, none⟩) := AK.facts_get hF 23 (by simp)
    clear hF
    simp only [h23] at hK ⊢
    clear h23
    go_simp
    exact hK.out _ _ bR (rfl) trivial
   refine AK.ss rfl rfl ?_ ?_
   ·intro u w_ hJ hA_ hF K hK
    have h24 : u 24 = .pointer (some ⟨j.b, 21, none⟩) := AK.facts_get hF 24 (by simp)
    clear hF
    simp only [h24] at hK ⊢
    clear h24
    obtain ⟨ho9, hl9⟩ := hJ
    obtain ⟨hr9, hn9⟩ := hl9 _ rfl
    obtain ⟨A9, c9, h22, hq9, -⟩ := hr9.reads
    have hbx := HBX.out.only ho9 HNR.out
    have c_ := hbx.at 21 _ rfl
    have y_ := hbx.frozen 21
    rw [h22] at hr9 hn9
    simp only [h22] at hK ⊢
    clear h22 hl9 hq9
    have k9 := adJ2.three ho9 hr9 hn9 hbx HNR.out HBW2.out
    obtain ⟨n9, he9⟩ : ∃ n9, (j.Xs.map (·.1) ++ [x]).length = n9 := ⟨_, rfl⟩
    rw [he9] at k9 hK ⊢
    clear hr9 hn9 he9
    go_simp
    exact hK.out undef _ k9 (by simp [World.setCell]) trivial
   exact AK.StepsOk.nil
  ·intro u8 W8 hJ8 hF
   clear hF
   obtain ⟨ho8, A8, c8, hb8, hr8, hn8⟩ := hJ8
   have hlen : (j.Xs.map (·.1) ++ [x]).length = j.n + 1 := by rw [List.length_append, List.length_map, HLN.out]; rfl
   rw [hlen] at hb8 hr8 hn8
   have hlt9 := HLL.out
   have hsz9 := HSZ3.out
   have hrow : ∀ k, rowS j k → k < s0 ∧ k ≠ j.bi ∧ k ≠ j.br := HLR.out
   have hxb8 := HXB.out.only ho8 (fun h => by rcases h with h | h; omega; have := (hrow _ h).1; omega)
   have hi8 := HM3.out.blk (ho8.blk _ (by omega) (fun h => by rcases h with h | h; exact HNB.out h.symm; exact (hrow _ h).2.1 rfl))
   have hv8 := HRV3.out.blk (ho8.blk _ (by omega) (fun h => by rcases h with h | h; exact HNB4.out h.symm; exact (hrow _ h).2.2 rfl))
   have hM : ∀ k, rowS j k → M k := HJ.out.mx
   have hO8 : Only M w W8 := ((Only.of HB2.out).trans (HO3.out.wide fun k _ hk => by rw [hk]; exact HJ.out.mi)).trans (ho8.wide fun k _ hk => by rcases hk with hk | hk; rw [hk]; exact HJ.out.mb; exact hM k hk)
   have hA8 : ∀ g, (Value.slice A8 (j.n + 1) c8).ownBlock = some g → M g ∨ w.heap.size ≤ g := fun g hg => by
    rcases hn8 g hg with h | h
    ·exact .inl (hM g h)
    ·exact .inr (by have := HS0.out; omega)
   have c3 := hxb8.at 3 _ rfl
   have HX4 := Lib.hid hxb8
   have HB4 := Lib.hid hb8
   have HR4 := Lib.hid hr8
   have HI4 := Lib.hid (idx_add HJ.out.len (p := pe (x, X)) hi8 HF.out)
   have HRV4 := Lib.hid hv8
   have HO4 := Lib.hid hO8
   have HA4 := Lib.hid hA8
   have HZ4 : Hid (s0 + 1 ≤ W8.heap.size) := Lib.hid (by have := ho8.size; omega)
   have HN8 := Lib.hid hn8
   clear hlen ho8 hb8 hr8 hn8 hlt9 hsz9 hrow hxb8 hi8 hv8 hM hO8 hA8 HXB HBX HRW
   obtain ⟨w4, hw4⟩ : ∃ w4, W8 = w4 := ⟨_, rfl⟩
   subst hw4
   by_cases hk : x.kind = 3
   ·rw [hk] at c3
    go_wp2_with fail
    refine AK.region_facts (Rp := Below0) (Kp := SizeUp) (adF4 j s0 x) (adJ j.br j.n (revF j.Es) (fun c => if c = x.of_ then some (.int .i64 x.id) else revF j.Es c) W8) [[], [28], [29], [30], [], [32], [], [34], [31, 33, 35]] [8] [[], []] [1, 1, 1, 1, 1, 1, 1, 1, 1] [0, 0, 0, 0, 0, 0, 0, 0, 0] [] (fun u => by simp only [adF4, AK.temps, List.map_cons, List.map_nil, fillL, List.setIfInBounds_toArray, List.set_cons_zero, List.set_cons_succ]; rfl) (by kernel_rfl) (by kernel_rfl) (fun _ _ h => h) (fun _ _ h => h.size) (adJ.st _ _ _ _ _) (⟨(Only.refl _).drew, HRV4.out.up (dc_drew (Below.refl _ _))⟩) ?_ ?_
    ·refine AK.sc (lim := 1) (lo := 0) rfl rfl rfl rfl ?_ ?_
     ·intro k_ u w_ hk_ hl_ hJ hF K hK
      clear hF
      go_simp
      exact hK.out _ _ bR (rfl) trivial
     refine AK.sc (lim := 1) (lo := 0) rfl rfl rfl rfl ?_ ?_
     ·intro k_ u w_ hk_ hl_ hJ hF K hK
      have h28 : u 28 = .pointer (some ⟨j.b, 0, none⟩) := AK.facts_get hF 28 (by simp)
      clear hF
      simp only [h28] at hK ⊢
      clear h28
      go_simp
      exact hK.out _ _ bR (rfl) trivial
     refine AK.sc (lim := 1) (lo := 0) rfl rfl rfl rfl ?_ ?_
     ·intro k_ u w_ hk_ hl_ hJ hF K hK
      have h29 : u 29 = .pointer (some ⟨j.b, 0, none⟩) := AK.facts_get hF 29 (by simp)
      clear hF
      simp only [h29] at hK ⊢
      clear h29
      go_simp
      exact hK.out _ _ bR (rfl) trivial
     refine AK.sc (lim := 1) (lo := 0) rfl rfl rfl rfl ?_ ?_
     ·intro k_ u w_ hk_ hl_ hJ hF K hK
      have h30 : u 30 = .pointer (some ⟨j.b, 23, none⟩) := AK.facts_get hF 30 (by simp)
      clear hF
      simp only [h30] at hK ⊢
      clear h30
      have c_ := (HB4.out.only hJ.1 HNB4.out).at 23 _ rfl
      go_simp
      exact hK.out _ _ bR (rfl) trivial
     refine AK.sc (lim := 1) (lo := 0) rfl rfl rfl rfl ?_ ?_
     ·intro k_ u w_ hk_ hl_ hJ hF K hK
      clear hF
      go_simp
      exact hK.out _ _ bR (rfl) trivial
     refine AK.sc (lim := 1) (lo := 0) rfl rfl rfl rfl ?_ ?_
     ·intro k_ u w_ hk_ hl_ hJ hF K hK
      have h32 : u 32 = .pointer (some ⟨s0, 4, none⟩) := AK.facts_get hF 32 (by simp)
      clear hF
      simp only [h32] at hK ⊢
      clear h32
      have c_ := (HX4.out.only hJ.1 HNX4.out).at 4 _ rfl
      go_simp
      exact hK.out _ _ bR (rfl) trivial
     refine AK.sc (lim := 1) (lo := 0) rfl rfl rfl rfl ?_ ?_
     ·intro k_ u w_ hk_ hl_ hJ hF K hK
      clear hF
      go_simp
      exact hK.out _ _ bR (rfl) trivial
     refine AK.sc (lim := 1) (lo := 0) rfl rfl rfl rfl ?_ ?_
     ·intro k_ u w_ hk_ hl_ hJ hF K hK
      have h34 : u 34 = .pointer (some ⟨s0, 0, none⟩) := AK.facts_get hF 34 (by simp)
      clear hF
      simp only [h34] at hK ⊢
      clear h34
      have c_ := (HX4.out.only hJ.1 HNX4.out).at 0 _ rfl
      go_simp
      exact hK.out _ _ bR (rfl) trivial
     refine AK.ss rfl rfl ?_ ?_
     ·intro u w_ hJ hA_ hF K hK
      have h31 : u 31 = .map (some j.br) := AK.facts_get hF 31 (by simp)
      have h33 : u 33 = .int .i64 x.of_ := AK.facts_get hF 33 (by simp)
      have h35 : u 35 = .int .i64 x.id := AK.facts_get hF 35 (by simp)
      clear hF
      simp only [h31, h33, h35] at hK ⊢
      clear h31 h33 h35
      refine wp_mapv_put _ _ _ rfl j.br j.n (revF j.Es) rfl hJ.2 x.of_ rfl (.int .i64 x.id) rfl HWO.out (by have := HN.out; omega) ?_
      intro w' hm' hg'
      exact hK.out _ _ ⟨hJ.1.trans (Only.grown hg' (fun k hk => by injection hk with hk; exact hk.symm)), hm'⟩ (hg'.size) trivial
     exact AK.StepsOk.nil
    ·intro u7 W7 hJ7 hF
     clear hF
     obtain ⟨ho7, hm7⟩ := hJ7
     go_end0
     refine ⟨rfl, A8, c8, ?_, HO4.out.trans (ho7.wide fun k _ hk => by rw [hk]; exact HJ.out.mr), HA4.out⟩
     have hlt9 := HLL.out
     have hz9 := HZ4.out
     refine jk_add HJ.out (HO4.out.trans (ho7.wide fun k _ hk => by rw [hk]; exact HJ.out.mr)) HX.out (HB4.out.only ho7 HNB4.out) ?_ HA4.out (HI4.out.blk (ho7.blk _ (by omega) HJ.out.ne)) (MapV.ext hm7 fun c => ?_) HP.out HWI.out HL.out
     ·rw [List.map_append]
      exact HR4.out.blk fun g hg => ho7.blk g (HR4.out.lt hg).2 (fun e => by
       rcases HN8.out g hg with h | h
       ·exact (HLR.out g h).2.2 e
       ·have := HSZ3.out; omega)
     ·rw [revF_snoc (x := pe (x, X)) hk (HRO.out hk)]
      rfl
   ·have hkq : (x.kind == 3) = false := by simp [hk]
    go_wp2_with fail
    go_end0
    refine ⟨rfl, A8, c8, jk_add HJ.out HO4.out HX.out HB4.out (by rw [List.map_append]; exact HR4.out) HA4.out HI4.out ((HRV4.out.mono (Nat.le_succ _)).ext fun c => revF_same (x := pe (x, X)) hk c) HP.out HWI.out HL.out, HO4.out, HA4.out⟩
open Go.RowKit Go.Maps
def PostP (M : Nat → Prop) (B : Nat) (j : JD) (x : Ety) (X : List Lnk) (w w' : World) : Prop :=
 ∃ A c A' c', JK (MA M j A' c') B w' (j.add (x.at A c) X A' c') ∧ Only M w w' ∧ (∀ k, MA M j A' c' k → (M k ∨ w.heap.size ≤ k) ∧ k < w'.heap.size) ∧ ∀ N : Nat → Prop, (∀ k, N k → k < w.heap.size) → Im (fun k => MA M j A' c' k ∨ N k) (fun W => EtyK W (x.at A c) X) w'
structure PostQ (c : Int) (M : Nat → Prop) (B : Nat) (j : JD) (x : Ety) (X : List Lnk) (w w' : World) : Prop where
 yes : c = 0 → PostP M B j x X w w'
 no : c ≠ 0 → Below w.heap.size w w'
theorem hdN_id {g : Grp} {x : Ety} {L : List Acc} {G : List Ent} (h : hdN g x L G = 0) : 1 ≤ x.id := by
 unfold hdN at h
 split at h
 ·rename_i h1
  simp only [Bool.and_eq_true, decide_eq_true_eq] at h1
  exact h1.2.1
 ·cases h
theorem chk_id {g : Grp} {x : Ety} {X : List Lnk} {L : List Acc} {G : List Ent} (h : chkN g x X L G = 0) : 1 ≤ x.id := by
 unfold chkN fst6 at h
 by_cases h0 : hdN g x L G = 0
 ·exact hdN_id h0
 ·rw [if_neg h0] at h; exact absurd h h0
theorem copy_im {M : Nat → Prop} {w : World} {x : Ety} {X : List Lnk} {A : Option Addr} {c b : Nat} (h : OwnR lyL 46 w b (.slice A x.n c) X) (hk : X.length = x.n) (ho : ∀ l ∈ X, okK (kOf l) ∧ (Lit.int .i64 l.tgt).wf = true) (hM : ∀ k, M k → k < b) : Im M (fun w => EtyK w (x.at A c) X) w := fun w' hb => by
 have h2 : OwnR lyL 46 w' b (.slice A x.n c) X := h.blk fun g hg => hb.blk g (h.lt hg).2 (fun h9 => by have := hM g h9; have := (h.lt hg).1; omega)
 obtain ⟨A', c', e, hr, -⟩ := h2.reads
 injection e with e _ _
 exact ⟨hk, by show LnkAt w' A X; rw [e]; exact lnk_row.1 hr, ho⟩
theorem post_facts {c : Int} {Es : List PE} {x : PE} {n : Nat} (hg : GoodP Es) (hn : Es.length = n) (h1 : c = 0) (h2 : (if idxP Es x.id < Es.length then 9 else 0 : Int) = 0) (h3 : rvE Es x = 0) (h4 : (if 2000 ≤ n then 6 else 0 : Int) = 0) : ¬ idxP Es x.id < Es.length ∧ (x.kind = 3 → revO Es x.of_ = none) ∧ n < 2000 := by
 have h : postE c Es x = 0 := by
  unfold postE fst4
  rw [hn, h1, h3, h4, ← hn, h2]
  rfl
 obtain ⟨-, h5, h6⟩ := postE_zero hg h
 refine ⟨h5, h6, ?_⟩
 by_cases h7 : 2000 ≤ n
 ·rw [if_pos h7] at h4; cases h4
 ·omega
set_option maxRecDepth 100000 in
set_option maxHeartbeats 6400000 in
theorem jpost_any {M : Nat → Prop} {B : Nat} (j : JD) (x : Ety) (X : List Lnk) (w : World) (hj : JK M B w j) (hx : EtyK w x X) (hxn : x.n ≤ 1000) (hwi : (Lit.int .i64 x.id).wf = true) (hwo : (Lit.int .i64 x.of_).wf = true) (hBw : B ≤ w.heap.size) (hjn : j.n ≤ 2000) (hM : ∀ k, M k → k < w.heap.size) :
  Calls Tryz.prog 9 #[.pointer (some ⟨j.b, 0, none⟩), etyV x] w fun e w' => e = .returned (.int .i64 (postE (chkN j.g x X j.L j.G) j.Es (pe (x, X)))) ∧ PostQ (postE (chkN j.g x X j.L j.G) j.Es (pe (x, X))) M B j x X w w' := by
 have H0 := Lib.hid (fun W (h : Below w.heap.size w W) => jce_any j x X W (hj.up h) (hx.up h) hxn)
 have H1 := Lib.hid (fun W (h : Below w.heap.size w W) => jci_any j x W (hj.up h) hwi (by omega))
 have H2 := Lib.hid (fun W (h : Below w.heap.size w W) => jcr_any j x X W (hj.up h) (hx.up h) hxn hwo (by omega))
 have H3 := Lib.hid (fun W (h : Below w.heap.size w W) => jcl_any j x W (hj.up h))
 have hE : postE (chkN j.g x X j.L j.G) j.Es (pe (x, X)) = fst4 (chkN j.g x X j.L j.G) (if fndB j.Xs x.id = true then 9 else 0) (rvE j.Es (pe (x, X))) (if 2000 ≤ j.n then 6 else 0) := by
  rw [fndB_is, show (List.map pe j.Xs).length = j.n from hj.len]
  unfold postE
  rw [hj.len]
  rfl
 have hAD := fun (h1 : chkN j.g x X j.L j.G = 0) (h2 : (if fndB j.Xs x.id = true then 9 else 0 : Int) = 0) (h3 : rvE j.Es (pe (x, X)) = 0) (h4 : (if 2000 ≤ j.n then 6 else 0 : Int) = 0) A c W (h : Below w.heap.size w W) (him : Im M (fun w => EtyK w (x.at A c) X) W) => by
  rw [fndB_is] at h2
  obtain ⟨q1, q2, q3⟩ := post_facts (x := pe (x, X)) hj.good hj.len h1 h2 h3 h4
  exact jadd_any j (x.at A c) X W (hj.up h) him (Nat.le_trans hBw h.size) hwi hwo (chk_id h1) (by rw [hx.ln]; exact hxn) q3 q1 q2
 rw [hE]
 have HCO := Lib.hid (fun W (h : Below w.heap.size w W) => copyof_any x X W (hx.up h) hxn)
 have HXL := Lib.hid hx.ln
 have HXO := Lib.hid hx.ok
 have HMS := Lib.hid hM
 generalize chkN j.g x X j.L j.G = r0 at *
 generalize (if fndB j.Xs x.id = true then 9 else 0 : Int) = r1 at *
 generalize rvE j.Es (pe (x, X)) = r2 at *
 generalize (if 2000 ≤ j.n then 6 else 0 : Int) = r3 at *
 have HAD := Lib.hid hAD
 obtain ⟨XV, hXV⟩ : ∃ XV, XV = etyV x := ⟨_, rfl⟩
 rw [← hXV] at H0 H1 H2 H3 HCO
 obtain ⟨xs, hxs⟩ : ∃ xs, (etyC x).toArray = xs := ⟨_, rfl⟩
 have hxV : etyV x = .agg xs := by rw [etyV_is, hxs]
 rw [hxV]
 obtain ⟨s0, hs0⟩ : ∃ s0, w.heap.size = s0 := ⟨_, rfl⟩
 obtain ⟨w2, hw2⟩ : ∃ w2, w.alloc (.cells xs 42) = w2 := ⟨_, rfl⟩
 have HX2 : Hid (Wh 42 w2 s0 (etyC x)) := Lib.hid (by rw [← hw2, ← hs0, ← hxs]; exact Wh.new w _ _)
 have HB2 : Hid (Below w.heap.size w w2) := Lib.hid (by rw [← hw2]; exact below_alloc_new _)
 have HXV := Lib.hid hXV
 have HS0 := Lib.hid hs0
 clear hj hx hxV hXV hAD hE hM hxs
 go_enter Tryz.func9, Tryz.ntmps9
 go_wp2_with (go_at_call 27; refine (jchecks_any _ _).mono ?_; rintro e w3 ⟨rfl, hw3⟩; have HW3 := Lib.hid hw3; clear hw3)
 have HF3 : Hid (Rg w3 w2.heap.size [.func (.func 46) #[.pointer (some ⟨j.b, 0, none⟩)] #[], .func (.func 47) #[.pointer (some ⟨j.b, 0, none⟩)] #[], .func (.func 48) #[.pointer (some ⟨j.b, 0, none⟩)] #[], .func (.func 49) #[.pointer (some ⟨j.b, 0, none⟩)] #[]]) := Lib.hid (by rw [HW3.out]; exact rg_new w2 _ _)
 have hB3 : Below w2.heap.size w2 w3 := by rw [HW3.out]; exact below_alloc_new _
 have HB3 := Lib.hid (HB2.out.trans (hB3.mono HB2.out.size))
 have HX3 := Lib.hid (HX2.out.up hB3)
 clear hB3 HX2 HB2 HW3
 go_loopg [13] 4 (fun kx s13 wr => ∃ k : Nat, s13 = .int .i64 k ∧ k ≤ 4 ∧ 4 - k ≤ kx ∧ (0 < k → r0 = 0) ∧ (1 < k → r1 = 0) ∧ (2 < k → r2 = 0) ∧ (3 < k → r3 = 0) ∧ Below w3.heap.size w3 wr)
 case atStart => exact ⟨0, rfl, by omega, by omega, fun h => absurd h (by omega), fun h => absurd h (by omega), fun h => absurd h (by omega), fun h => absurd h (by omega), Below.refl _ _⟩
 case round =>
  obtain ⟨k, rfl, hk, hkx, q0, q1, q2, q3, hBi⟩ := hrel
  have hF := HF3.out.up hBi
  have HBW := Lib.hid (HB3.out.trans (hBi.mono HB3.out.size))
  have HBI := Lib.hid hBi
  have HLX : Hid ((Instr.loadAt 42 (.pointer (some ⟨s0, 0, none⟩))).run Tryz.prog wr = .ok XV wr) := Lib.hid (by rw [HXV.out, etyV_is]; exact (HX3.out.up hBi).rg.load 0 42 (etyC x) rfl _ Tryz.underlying42 rfl (by kernel_rfl))
  clear hBi
  have hk4 : k = 0 ∨ k = 1 ∨ k = 2 ∨ k = 3 ∨ k = 4 := by omega
  rcases hk4 with rfl | rfl | rfl | rfl | rfl
  ·have c0 := hF.cell 0 _ rfl
   by_cases hr : r0 = 0
   ·have HR := Lib.hid hr
    have e0 : (r0 != 0) = false := by simp [hr]
    clear hr hF
    go_wp2_with (first
     | (refine wpList_load_is rfl 42 _ rfl (.pointer (some ⟨s0, 0, none⟩)) rfl XV HLX.out ?_)
     | (go_at_call 46; refine (H0.out _ HBW.out).mono ?_; rintro e w5 ⟨rfl, hb5⟩; have HB5 := Lib.hid (HBI.out.trans (hb5.mono HBI.out.size)); clear hb5))
    go_roundg 3
    case measure => omega
    case rel => exact ⟨1, by first | rfl | go_num, by omega, by omega, fun _ => HR.out, fun h => absurd h (by omega), fun h => absurd h (by omega), fun h => absurd h (by omega), HB5.out⟩
   ·have E : Hid (fst4 r0 r1 r2 r3 = r0) := Lib.hid (by unfold fst4; rw [if_neg hr])
    have HR := Lib.hid hr
    have e0 : (r0 != 0) = true := by simp [hr]
    clear hr hF q0 q1 q2 q3
    go_wp2_with (first
     | (refine wpList_load_is rfl 42 _ rfl (.pointer (some ⟨s0, 0, none⟩)) rfl XV HLX.out ?_)
     | (go_at_call 46; refine (H0.out _ HBW.out).mono ?_; rintro e w5 ⟨rfl, hb5⟩; have HB5 := Lib.hid (HBI.out.trans (hb5.mono HBI.out.size)); clear hb5))
    go_ret
    exact ⟨by rw [E.out]; rfl, ⟨fun h => absurd (E.out.symm.trans h) HR.out, fun _ => HB3.out.trans (HB5.out.mono HB3.out.size)⟩⟩
  ·have c0 := hF.cell 1 _ rfl
   by_cases hr : r1 = 0
   ·have HR := Lib.hid hr
    have e0 : (r1 != 0) = false := by simp [hr]
    clear hr hF
    go_wp2_with (first
     | (refine wpList_load_is rfl 42 _ rfl (.pointer (some ⟨s0, 0, none⟩)) rfl XV HLX.out ?_)
     | (go_at_call 47; refine (H1.out _ HBW.out).mono ?_; rintro e w5 ⟨rfl, hb5⟩; have HB5 := Lib.hid (HBI.out.trans (hb5.mono HBI.out.size)); clear hb5))
    go_roundg 2
    case measure => omega
    case rel => exact ⟨2, by first | rfl | go_num, by omega, by omega, fun _ => q0 (by omega), fun _ => HR.out, fun h => absurd h (by omega), fun h => absurd h (by omega), HB5.out⟩
   ·have E : Hid (fst4 r0 r1 r2 r3 = r1) := Lib.hid (by unfold fst4; rw [if_pos (q0 (by omega)), if_neg hr])
    have HR := Lib.hid hr
    have e0 : (r1 != 0) = true := by simp [hr]
    clear hr hF q0 q1 q2 q3
    go_wp2_with (first
     | (refine wpList_load_is rfl 42 _ rfl (.pointer (some ⟨s0, 0, none⟩)) rfl XV HLX.out ?_)
     | (go_at_call 47; refine (H1.out _ HBW.out).mono ?_; rintro e w5 ⟨rfl, hb5⟩; have HB5 := Lib.hid (HBI.out.trans (hb5.mono HBI.out.size)); clear hb5))
    go_ret
    exact ⟨by rw [E.out]; rfl, ⟨fun h => absurd (E.out.symm.trans h) HR.out, fun _ => HB3.out.trans (HB5.out.mono HB3.out.size)⟩⟩
  ·have c0 := hF.cell 2 _ rfl
   by_cases hr : r2 = 0
   ·have HR := Lib.hid hr
    have e0 : (r2 != 0) = false := by simp [hr]
    clear hr hF
    go_wp2_with (first
     | (refine wpList_load_is rfl 42 _ rfl (.pointer (some ⟨s0, 0, none⟩)) rfl XV HLX.out ?_)
     | (go_at_call 48; refine (H2.out _ HBW.out).mono ?_; rintro e w5 ⟨rfl, hb5⟩; have HB5 := Lib.hid (HBI.out.trans (hb5.mono HBI.out.size)); clear hb5))
    go_roundg 1
    case measure => omega
    case rel => exact ⟨3, by first | rfl | go_num, by omega, by omega, fun _ => q0 (by omega), fun _ => q1 (by omega), fun _ => HR.out, fun h => absurd h (by omega), HB5.out⟩
   ·have E : Hid (fst4 r0 r1 r2 r3 = r2) := Lib.hid (by unfold fst4; rw [if_pos (q0 (by omega)), if_pos (q1 (by omega)), if_neg hr])
    have HR := Lib.hid hr
    have e0 : (r2 != 0) = true := by simp [hr]
    clear hr hF q0 q1 q2 q3
    go_wp2_with (first
     | (refine wpList_load_is rfl 42 _ rfl (.pointer (some ⟨s0, 0, none⟩)) rfl XV HLX.out ?_)
     | (go_at_call 48; refine (H2.out _ HBW.out).mono ?_; rintro e w5 ⟨rfl, hb5⟩; have HB5 := Lib.hid (HBI.out.trans (hb5.mono HBI.out.size)); clear hb5))
    go_ret
    exact ⟨by rw [E.out]; rfl, ⟨fun h => absurd (E.out.symm.trans h) HR.out, fun _ => HB3.out.trans (HB5.out.mono HB3.out.size)⟩⟩
  ·have c0 := hF.cell 3 _ rfl
   by_cases hr : r3 = 0
   ·have HR := Lib.hid hr
    have e0 : (r3 != 0) = false := by simp [hr]
    clear hr hF
    go_wp2_with (first
     | (refine wpList_load_is rfl 42 _ rfl (.pointer (some ⟨s0, 0, none⟩)) rfl XV HLX.out ?_)
     | (go_at_call 49; refine (H3.out _ HBW.out).mono ?_; rintro e w5 ⟨rfl, hb5⟩; have HB5 := Lib.hid (HBI.out.trans (hb5.mono HBI.out.size)); clear hb5))
    go_roundg 0
    case measure => omega
    case rel => exact ⟨4, by first | rfl | go_num, by omega, by omega, fun _ => q0 (by omega), fun _ => q1 (by omega), fun _ => q2 (by omega), fun _ => HR.out, HB5.out⟩
   ·have E : Hid (fst4 r0 r1 r2 r3 = r3) := Lib.hid (by unfold fst4; rw [if_pos (q0 (by omega)), if_pos (q1 (by omega)), if_pos (q2 (by omega))])
    have HR := Lib.hid hr
    have e0 : (r3 != 0) = true := by simp [hr]
    clear hr hF q0 q1 q2 q3
    go_wp2_with (first
     | (refine wpList_load_is rfl 42 _ rfl (.pointer (some ⟨s0, 0, none⟩)) rfl XV HLX.out ?_)
     | (go_at_call 49; refine (H3.out _ HBW.out).mono ?_; rintro e w5 ⟨rfl, hb5⟩; have HB5 := Lib.hid (HBI.out.trans (hb5.mono HBI.out.size)); clear hb5))
    go_ret
    exact ⟨by rw [E.out]; rfl, ⟨fun h => absurd (E.out.symm.trans h) HR.out, fun _ => HB3.out.trans (HB5.out.mono HB3.out.size)⟩⟩
  ·have z0 := q0 (by omega)
   have z1 := q1 (by omega)
   have z2 := q2 (by omega)
   have z3 := q3 (by omega)
   have HAE := Lib.hid (HAD.out z0 z1 z2 z3)
   clear HAD
   subst z0 z1 z2 z3
   clear hF q0 q1 q2 q3
   go_wp2_with (first
    | (refine wpList_load_is rfl 42 _ rfl (.pointer (some ⟨s0, 0, none⟩)) rfl XV HLX.out ?_)
    | (go_at_call 29; refine (HCO.out _ HBW.out).mono ?_; rintro e w5 ⟨⟨A, c, rfl, ho5⟩, hb5⟩; have HO5 := Lib.hid ho5; have HBX := Lib.hid hb5; have HB5 := Lib.hid (HBW.out.trans (hb5.mono HBW.out.size)); clear ho5 hb5)
    | (go_at_call 28; refine (HAE.out A c _ HB5.out (copy_im HO5.out HXL.out HXO.out (fun k hk => Nat.lt_of_lt_of_le (HMS.out k hk) HBW.out.size))).mono ?_; rintro e w6 ⟨rfl, A6, c6, hj6, ho6, hm6⟩; have HJ6 := Lib.hid hj6; have HO6 := Lib.hid ho6; have HM6 := Lib.hid hm6; clear hj6 ho6 hm6))
   go_ret
   refine ⟨rfl, ⟨fun _ => ⟨A, c, A6, c6, HJ6.out, (Only.of HB5.out).trans HO6.out, fun k hk => ?_, fun N hN => ?_⟩, fun h => absurd rfl h⟩⟩
   ·rcases hk with hk | hk
    ·exact ⟨.inl hk, Nat.lt_of_lt_of_le (HMS.out k hk) (Nat.le_trans HB5.out.size HO6.out.size)⟩
    ·refine ⟨?_, (HJ6.out.row.lt hk).2⟩
     rcases HM6.out k hk with h | h
     ·exact .inl h
     ·exact .inr (Nat.le_trans HB5.out.size h)
   ·exact (copy_im (M := fun k => M k ∨ N k) HO5.out HXL.out HXO.out (fun k hk => Nat.lt_of_lt_of_le (hk.elim (HMS.out k) (hN k)) HBW.out.size)).step (HO6.out.wide fun k _ h => .inl h) (fun k hk h => by
     rcases h with (h | h) | h
     ·exact .inl h
     ·rcases HM6.out k h with h | h
      ·exact .inl h
      ·omega
     ·exact .inr h)
open Go.RowKit
theorem idxP_hit {Es : List PE} {k : Nat} {e : PE} {id : Int} (h : Es[k]? = some e) (he : e.id = id) (hb : ∀ i e', i < k → Es[i]? = some e' → e'.id ≠ id) : idxP Es id = k := by
 have hk : k < Es.length := (List.getElem?_eq_some_iff.1 h).1
 rcases Nat.lt_trichotomy (idxP Es id) k with h1 | h1 | h1
 ·obtain ⟨e', h2, h3⟩ := idxP_some (Es := Es) (id := id) (by omega)
  exact absurd h3 (hb _ _ h1 h2)
 ·exact h1
 ·unfold idxP at h1
  have h2 := List.not_of_lt_findIdx h1
  rw [List.getElem?_eq_getElem hk] at h
  injection h with h
  rw [h, he] at h2
  simp at h2
theorem idxP_miss {Es : List PE} {id : Int} (hb : ∀ i e', i < Es.length → Es[i]? = some e' → e'.id ≠ id) : ¬ idxP Es id < Es.length := fun h => by
 obtain ⟨e', h2, h3⟩ := idxP_some h
 exact hb _ _ h h2 h3
theorem getP_hit {Es : List PE} {k : Nat} {e : PE} {id : Int} (h : Es[k]? = some e) (he : e.id = id) (hb : ∀ i e', i < k → Es[i]? = some e' → e'.id ≠ id) : getP Es id = (k : Int) := by
 unfold getP
 rw [idxP_hit h he hb, if_pos (List.getElem?_eq_some_iff.1 h).1]
theorem getP_miss {Es : List PE} {id : Int} (hb : ∀ i e', i < Es.length → Es[i]? = some e' → e'.id ≠ id) : getP Es id = -1 := by
 unfold getP
 rw [if_neg (idxP_miss hb)]
theorem revP_hit {Es : List PE} {k : Nat} {e : PE} {id : Int} (h : Es[k]? = some e) (he : isRv id e = true) (hb : ∀ i e', i < k → Es[i]? = some e' → isRv id e' = false) : revP Es id = e.id := by
 have h1 : revO Es id = some e := by
  unfold revO
  have hk : k < Es.length := (List.getElem?_eq_some_iff.1 h).1
  rw [List.find?_eq_some_iff_getElem]
  refine ⟨he, k, hk, (List.getElem?_eq_some_iff.1 h).2, fun i hi => ?_⟩
  rw [hb i _ hi (List.getElem?_eq_getElem (by omega))]
  rfl
 unfold revP
 rw [h1]
theorem revP_miss {Es : List PE} {id : Int} (hb : ∀ i e', i < Es.length → Es[i]? = some e' → isRv id e' = false) : revP Es id = 0 := by
 have h1 : revO Es id = none := by
  unfold revO
  rw [List.find?_eq_none]
  intro e he
  obtain ⟨i, hi, h2⟩ := List.getElem_of_mem he
  rw [hb i e hi (by rw [List.getElem?_eq_getElem hi, h2])]
  simp
 unfold revP
 rw [h1]
set_option maxRecDepth 100000 in
set_option maxHeartbeats 3200000 in
theorem r12get_any (A : Option Addr) (c : Nat) (Xs : List Etl) (id : Int) (w : World) (hz : RowAt lyX w A (Xs.map (·.1))) (hl : Xs.length ≤ 100000) : Calls Tryz.prog 20 #[.slice A Xs.length c, .int .i64 id] w fun e w' => e = .returned (.int .i64 (getP (Xs.map pe) id)) ∧ w = w' := by
 obtain ⟨n, hn⟩ : ∃ n, Xs.length = n := ⟨_, rfl⟩
 rw [hn] at hl ⊢
 have HN := Lib.hid hn
 have HZ := Lib.hid hz
 clear hn hz
 go_enter Tryz.func20, Tryz.ntmps20
 go_wp2_with fail
 go_loopg [5] n (fun kx s5 wr => ∃ k : Nat, s5 = .int .i64 k ∧ k ≤ n ∧ n - k ≤ kx ∧ Hid (∀ i e', i < k → (Xs.map pe)[i]? = some e' → e'.id ≠ id) ∧ w = wr)
 case atStart => exact ⟨0, rfl, by omega, by omega, Lib.hid (fun i _ h => absurd h (by omega)), rfl⟩
 case round =>
  obtain ⟨k, rfl, hk, hkx, HH, rfl⟩ := hrel
  by_cases hlt : k < n
  ·have hltz : (k : Int) < (n : Int) := by omega
   obtain ⟨p, hp⟩ : ∃ p, Xs[k]? = some p := ⟨_, List.getElem?_eq_getElem (by rw [HN.out]; exact hlt)⟩
   obtain ⟨x, X⟩ := p
   have hpe : (Xs.map pe)[k]? = some (pe (x, X)) := by rw [List.getElem?_map, hp]; rfl
   obtain ⟨b, off, rfl, hbl, hrg⟩ := HZ.out.at (i := k) (a := x) (by rw [List.getElem?_map, hp]; rfl)
   have z0 : w.cell? ⟨b, off + k * 7, none⟩ = some (.int .i64 x.id) := by have := hrg 0 _ rfl; rwa [Nat.add_zero] at this
   have z3 : w.cell? ⟨b, off + k * 7 + 3, none⟩ = some (.int .i64 x.kind) := hrg 3 _ rfl
   have z4 : w.cell? ⟨b, off + k * 7 + 4, none⟩ = some (.int .i64 x.of_) := hrg 4 _ rfl
   have HPE := Lib.hid hpe
   clear hrg hp hpe hbl HZ
   by_cases hid : x.id = id
   ·have HR : Hid (getP (Xs.map pe) id = (k : Int)) := Lib.hid (getP_hit HPE.out hid HH.out)
    rw [hid] at z0
    go_wp2_with fail
    go_ret
    exact ⟨by rw [HR.out]; rfl, rfl⟩
   ·have HH2 : Hid (∀ i e', i < k + 1 → (Xs.map pe)[i]? = some e' → e'.id ≠ id) := Lib.hid (fun i e' hi he => by
     rcases Nat.lt_or_ge i k with h | h
     ·exact HH.out i e' h he
     ·obtain rfl : i = k := by omega
      rw [HPE.out] at he; injection he with he; rw [← he]; exact hid)
    have hidq : (x.id == id) = false := by simp [hid]
    go_wp2_with fail
    go_roundg (n - (k + 1))
    case measure => omega
    case rel => exact ⟨k + 1, by go_num, by omega, by omega, HH2, rfl⟩
  ·obtain rfl : k = n := by omega
   have hltz : ¬ (k : Int) < (k : Int) := by omega
   have HR : Hid (getP (Xs.map pe) id = -1) := Lib.hid (getP_miss (fun i e' hi he => HH.out i e' (by rw [List.length_map, HN.out] at hi; exact hi) he))
   go_wp2_with fail
   go_ret
   exact ⟨by rw [HR.out]; rfl, rfl⟩
set_option maxRecDepth 100000 in
set_option maxHeartbeats 3200000 in
theorem r12rev_any (A : Option Addr) (c : Nat) (Xs : List Etl) (id : Int) (w : World) (hz : RowAt lyX w A (Xs.map (·.1))) (hl : Xs.length ≤ 100000) : Calls Tryz.prog 25 #[.slice A Xs.length c, .int .i64 id] w fun e w' => e = .returned (.int .i64 (revP (Xs.map pe) id)) ∧ w = w' := by
 obtain ⟨n, hn⟩ : ∃ n, Xs.length = n := ⟨_, rfl⟩
 rw [hn] at hl ⊢
 have HN := Lib.hid hn
 have HZ := Lib.hid hz
 clear hn hz
 go_enter Tryz.func25, Tryz.ntmps25
 go_wp2_with fail
 go_loopg [5] n (fun kx s5 wr => ∃ k : Nat, s5 = .int .i64 k ∧ k ≤ n ∧ n - k ≤ kx ∧ Hid (∀ i e', i < k → (Xs.map pe)[i]? = some e' → isRv id e' = false) ∧ w = wr)
 case atStart => exact ⟨0, rfl, by omega, by omega, Lib.hid (fun i _ h => absurd h (by omega)), rfl⟩
 case round =>
  obtain ⟨k, rfl, hk, hkx, HH, rfl⟩ := hrel
  by_cases hlt : k < n
  ·have hltz : (k : Int) < (n : Int) := by omega
   obtain ⟨p, hp⟩ : ∃ p, Xs[k]? = some p := ⟨_, List.getElem?_eq_getElem (by rw [HN.out]; exact hlt)⟩
   obtain ⟨x, X⟩ := p
   have hpe : (Xs.map pe)[k]? = some (pe (x, X)) := by rw [List.getElem?_map, hp]; rfl
   obtain ⟨b, off, rfl, hbl, hrg⟩ := HZ.out.at (i := k) (a := x) (by rw [List.getElem?_map, hp]; rfl)
   have z0 : w.cell? ⟨b, off + k * 7, none⟩ = some (.int .i64 x.id) := by have := hrg 0 _ rfl; rwa [Nat.add_zero] at this
   have z3 : w.cell? ⟨b, off + k * 7 + 3, none⟩ = some (.int .i64 x.kind) := hrg 3 _ rfl
   have z4 : w.cell? ⟨b, off + k * 7 + 4, none⟩ = some (.int .i64 x.of_) := hrg 4 _ rfl
   have HPE := Lib.hid hpe
   clear hrg hp hpe hbl HZ
   by_cases hkd : x.kind = 3
   ·rw [hkd] at z3
    by_cases hid : x.of_ = id
    ·have HR : Hid (revP (Xs.map pe) id = x.id) := Lib.hid (revP_hit HPE.out (by unfold isRv; show (decide (x.kind = 3) && decide (x.of_ = id)) = true; rw [hkd, hid]; simp) HH.out)
     rw [hid] at z4
     go_wp2_with fail
     go_ret
     exact ⟨by rw [HR.out]; rfl, rfl⟩
    ·have HH2 : Hid (∀ i e', i < k + 1 → (Xs.map pe)[i]? = some e' → isRv id e' = false) := Lib.hid (fun i e' hi he => by
      rcases Nat.lt_or_ge i k with h | h
      ·exact HH.out i e' h he
      ·obtain rfl : i = k := by omega
       rw [HPE.out] at he; injection he with he; rw [← he]
       show (decide (x.kind = 3) && decide (x.of_ = id)) = false
       simp [hid])
     have hidq : (x.of_ == id) = false := by simp [hid]
     go_wp2_with fail
     go_roundg (n - (k + 1))
     case measure => omega
     case rel => exact ⟨k + 1, by go_num, by omega, by omega, HH2, rfl⟩
   ·have HH2 : Hid (∀ i e', i < k + 1 → (Xs.map pe)[i]? = some e' → isRv id e' = false) := Lib.hid (fun i e' hi he => by
     rcases Nat.lt_or_ge i k with h | h
     ·exact HH.out i e' h he
     ·obtain rfl : i = k := by omega
      rw [HPE.out] at he; injection he with he; rw [← he]
      show (decide (x.kind = 3) && decide (x.of_ = id)) = false
      simp [hkd])
    have hkq : (x.kind == 3) = false := by simp [hkd]
    go_wp2_with fail
    go_roundg (n - (k + 1))
    case measure => omega
    case rel => exact ⟨k + 1, by go_num, by omega, by omega, HH2, rfl⟩
  ·obtain rfl : k = n := by omega
   have hltz : ¬ (k : Int) < (k : Int) := by omega
   have HR : Hid (revP (Xs.map pe) id = 0) := Lib.hid (revP_miss (fun i e' hi he => HH.out i e' (by rw [List.length_map, HN.out] at hi; exact hi) he))
   go_wp2_with fail
   go_ret
   exact ⟨by rw [HR.out]; rfl, rfl⟩
end Go.Proofs.YtacmccijnkojeaaGreat
