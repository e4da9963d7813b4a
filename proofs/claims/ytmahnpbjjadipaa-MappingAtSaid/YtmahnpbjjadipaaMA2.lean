/- Contracts and the law of MappingAt, part 2: what was proved of each, callees first. -/
import Derived.Test.YtmahnpbjjadipaaMA1
namespace Go.Proofs.Ytmahnpbjjadipaa
open Go.RowKit
theorem infoI_int9 : (Try.prog.info? 3).map (fun i => (i.zero, i.size, i.bytes)) = some (some (.int .i64 0), 1, 8) := by kernel_rfl
theorem box1_at (w : World) (v : Value) (t : TypeId) : (w.alloc (.cells #[v] t)).cell? ⟨w.heap.size, 0, none⟩ = some v := by
 simp only [World.cell?]; rw [heap_alloc_new]; rfl
theorem box_o9 (w : World) (v : Value) (t : TypeId) (o : Obj) : ((w.alloc (.cells #[v] t)).alloc o).cell? ⟨w.heap.size, 0, none⟩ = some v :=
 ((below_alloc_new (w := w.alloc (.cells #[v] t)) o).cell (p := ⟨w.heap.size, 0, none⟩) (by simp)).trans (box1_at w v t)
theorem box_n9 (w : World) (v : Value) (t : TypeId) (o : Obj) : ((w.alloc o).alloc (.cells #[v] t)).cell? ⟨w.heap.size + 1, 0, none⟩ = some v := by
 have h := box1_at (w.alloc o) v t
 have e : (w.alloc o).heap.size = w.heap.size + 1 := by simp
 rwa [e] at h
theorem ownI_second {k : IntKind} (w : World) (o : Obj) (e : TypeId) : OwnI k e ((w.alloc o).alloc (.cells #[] e)) w.heap.size (.slice (some ⟨w.heap.size + 1, 0, none⟩) 0 0) [] := by
 have h := OwnI.empty (k := k) (e := e) (base := w.heap.size) (w := w.alloc o) (by simp)
 have e1 : (w.alloc o).heap.size = w.heap.size + 1 := by simp
 rwa [e1] at h
theorem ints_one {w : World} {g : Nat} {x : Int} (h : w.cell? ⟨g, 0, none⟩ = some (.int .i64 x)) (hlt : g < w.heap.size) : IntsAt .i64 w (some ⟨g, 0, none⟩) [x] := fun _ => ⟨g, 0, rfl, hlt, fun i hi => by
 obtain rfl : i = 0 := by simpa using hi
 exact h⟩
theorem datesL_succ {K : List Lnk} {k : Nat} (hk : k < K.length) : datesL (K.take (k + 1)) = insD (K.getD k lnk0).since (datesL (K.take k)) := by
 unfold datesL
 rw [take_succ_getD (d := lnk0) hk, List.map_append, List.map_cons, List.map_nil, keysL_snoc]
theorem datesL_len {K : List Lnk} : (datesL K).length ≤ K.length := by
 unfold datesL
 have := keysL_len (l := K.map (·.since))
 simpa using this
set_option maxRecDepth 20000 in
set_option maxHeartbeats 3200000 in
theorem rdates9_any (nm cur : ByteArray) (A : Option Addr) (n cp : Nat) (B : Option Addr) (d : Nat) (K : List Lnk) (jt : Bool) (w : World) (hy : LnkAt w B K) (hm : K.length ≤ 1000) :
    Calls Try.prog 17 #[entV nm cur A n cp B K.length d jt] w fun e w' => ∃ v, e = .returned v ∧ SlI w' v (datesL K) ∧ Below w.heap.size w w' := by
  have hB := below_alloc_new (w := w) (.cells #[.string nm, .string cur, .slice A n cp, .slice B K.length d, .bool jt] 25)
  have hEB := eb_new w 25 nm cur A n cp B K.length d jt
  have hTK := fun k hk => datesL_succ (K := K) (k := k) hk
  have hTL : ∀ k, (datesL (K.take k)).length ≤ 1000 := fun k => by have := datesL_len (K := K.take k); rw [List.length_take] at this; omega
  have hTE : ∀ k, K.length ≤ k → datesL (K.take k) = datesL K := fun k hk => by rw [List.take_of_length_le hk]
  have hT0 : datesL (K.take 0) = [] := rfl
  have hTA : ∀ k, Asc (datesL (K.take k)) := fun k => keysL_is.1
  obtain ⟨m, hm2⟩ : ∃ m, K.length = m := ⟨_, rfl⟩
  rw [hm2] at hm hB hEB hTK hTE
  have hY := hy.up hB
  rw [hm2]
  obtain ⟨s0, hs0⟩ : ∃ s0, w.heap.size = s0 := ⟨_, rfl⟩
  rw [hs0] at hEB hB
  have HM := Lib.hid hm2
  have HEB := Lib.hid hEB
  have HY := Lib.hid hY
  have HTK := Lib.hid hTK
  have HTL := Lib.hid hTL
  have HTE := Lib.hid hTE
  have HT0 := Lib.hid hT0
  have HTA := Lib.hid hTA
  have HS0 := Lib.hid hs0
  obtain ⟨i0, hi, hz0, hz1, hz2⟩ := info_parts infoI_int9
  clear hEB hY hTK hTL hTE hT0 hTA hm2 hy
  go_enter Try.func17, Try.ntmps17
  go_wp2_with fail
  have hO : Hid (OwnI .i64 3 (w.alloc (.cells #[.string nm, .string cur, .slice A n cp, .slice B m d, .bool jt] 25)) s0 (.slice none 0 0) (datesL (K.take 0))) := Lib.hid (by rw [HT0.out]; exact OwnI.nil)
  have hNZ : Hid (datesL (K.take 0) = [] → (.slice none 0 0 : Value) = .slice none 0 0) := Lib.hid (fun _ => rfl)
  clear hs0
  go_loopg [3, 4] m (fun kx s3 s4 wr => ∃ k : Nat, s4 = .int .i64 k ∧ k ≤ m ∧ m - k ≤ kx ∧ Hid (OwnI .i64 3 wr s0 s3 (datesL (K.take k))) ∧ Hid (datesL (K.take k) = [] → s3 = .slice none 0 0) ∧ Hid (EB wr s0 nm cur A n cp B m d jt) ∧ Hid (LnkAt wr B K) ∧ Below s0 w wr)
  case atStart => exact ⟨0, rfl, by omega, by omega, hO, hNZ, HEB, HY, hB⟩
  case round =>
    clear hO hNZ HEB HY hB
    obtain ⟨k, rfl, hk, hkx, hO, hNZ, HEB, HY, hB⟩ := hrel
    have hsz : s0 < wr.heap.size := HEB.out.lt
    obtain ⟨c0, c1, c2, c3, c4, lt⟩ := HEB.out
    by_cases hlt : k < m
    · have hltz : (k : Int) < (m : Int) := by omega
      obtain ⟨b, off, eB, hbw, hcs⟩ := HY.out (by rw [HM.out]; omega)
      subst eB
      obtain ⟨d0, d1, d2⟩ := hcs k (by rw [HM.out]; exact hlt)
      have htk := HTK.out k hlt
      have htl := HTL.out k
      have hta := HTA.out k
      obtain ⟨x, hx⟩ : ∃ x, (K.getD k lnk0).since = x := ⟨_, rfl⟩
      rw [hx] at d2 htk
      obtain ⟨D, hD⟩ : ∃ D, datesL (K.take k) = D := ⟨_, rfl⟩
      rw [hD] at htk htl hta hO hNZ
      obtain ⟨A3, cp3, e3, hI3⟩ := hO.out.ints
      obtain ⟨q, hq⟩ : ∃ q, D.length = q := ⟨_, rfl⟩
      rw [hq] at e3 htl
      subst e3
      have HI3 := Lib.hid hI3
      have HTKx := Lib.hid htk
      have HAx := Lib.hid hta
      have HQ := Lib.hid hq
      have HCS := Lib.hid hcs
      clear hI3 htk hta hq hD hx hcs
      go_wp2_with fail
      go_loopg [6] q (fun jx s6 W => ∃ j : Nat, s6 = .int .i64 j ∧ j ≤ q ∧ q - j ≤ jx ∧ Hid (∀ i, i < j → D.getD i 0 < x) ∧ W = wr)
      case atStart => exact ⟨0, rfl, by omega, by omega, Lib.hid (fun i h => absurd h (by omega)), rfl⟩
      case round =>
        obtain ⟨j, rfl, hj, hjx, HLT, rfl⟩ := hrel
        by_cases hjq : j < q
        · have hjz : (j : Int) < (q : Int) := by omega
          obtain ⟨b3, off3, e3, hb3, hc3⟩ := HI3.out (by rw [HQ.out]; omega)
          subst e3
          have p0 := hc3 j (by rw [HQ.out]; exact hjq)
          obtain ⟨y, hy⟩ : ∃ y, D.getD j 0 = y := ⟨_, rfl⟩
          rw [hy] at p0
          have HYE := Lib.hid hy
          clear hc3 hy
          by_cases h1 : y < x
          · have e1 : decide (y < x) = true := decide_eq_true h1
            have HLT2 : Hid (∀ i, i < j + 1 → D.getD i 0 < x) := Lib.hid (fun i hi => by
              rcases Nat.lt_or_ge i j with h9 | h9
              · exact HLT.out i h9
              · obtain rfl : i = j := by omega
                rw [HYE.out]; exact h1)
            clear h1
            go_wp2_with fail
            go_roundg (q - (j + 1))
            case measure => omega
            case rel => exact ⟨j + 1, by go_num, by omega, by omega, HLT2, rfl⟩
          · have e1 : decide (y < x) = false := decide_eq_false h1
            by_cases h2 : y = x
            · have e2 : (y == x) = true := by simp [h2]
              have hO2 : Hid (OwnI .i64 3 wr s0 (.slice (some ⟨b3, off3, none⟩) q cp3) (datesL (K.take (k + 1)))) := Lib.hid (by
                rw [HTKx.out, insD_at (k := j) (by rw [HQ.out]; omega) HLT.out (fun _ => by rw [HYE.out]; omega), if_pos ⟨by rw [HQ.out]; exact hjq, by rw [HYE.out]; exact h2⟩]
                exact hO.out)
              have hNZ2 : Hid (datesL (K.take (k + 1)) = [] → (.slice (some ⟨b3, off3, none⟩) q cp3 : Value) = .slice none 0 0) := Lib.hid (fun h9 => by
                have := congrArg List.length (HTKx.out.symm.trans h9)
                exact absurd (mem_insD.2 (.inl rfl) : x ∈ insD x D) (by rw [HTKx.out.symm.trans h9]; simp))
              clear h1 h2
              go_wp2_with fail
              go_roundg (m - (k + 1))
              case measure => omega
              case rel => exact ⟨k + 1, by go_num, by omega, by omega, hO2, hNZ2, HEB, HY, hB⟩
            · have e2 : (y == x) = false := by simp [h2]
              have hins : insD x D = D.take j ++ x :: D.drop j := by
                rw [insD_at (k := j) (by rw [HQ.out]; omega) HLT.out (fun _ => by rw [HYE.out]; omega), if_neg (fun h => h2 (by rw [← HYE.out]; exact h.2))]
              have HINS := Lib.hid (HTKx.out.trans hins)
              clear h1 h2 hins
              go_wp2_with fail
              have hDl : (D.take j).length = j := by rw [List.length_take, HQ.out]; omega
              have hDd : (D.drop j).length = q - j := by rw [List.length_drop, HQ.out]
              have hcap : q ≤ cp3 := by
                rcases hO.out.2 with ⟨h9, -⟩ | ⟨g, cap, cur, h9, -, -, h8, -⟩
                · cases h9
                · cases h9; rw [← HQ.out]; exact h8
              have hjc : (j : Int) ≤ (cp3 : Int) := by omega
              have hcj : ¬ cp3 = j := by omega
              have HDL := Lib.hid hDl
              have HDD := Lib.hid hDd
              have HT9 := Lib.hid (HI3.out.take j)
              have HD9 := Lib.hid (HI3.out.drop j)
              obtain ⟨T9, hT9⟩ : ∃ T9, D.take j = T9 := ⟨_, rfl⟩
              obtain ⟨D9, hD9⟩ : ∃ D9, D.drop j = D9 := ⟨_, rfl⟩
              rw [hT9] at HDL HT9 HINS
              rw [hD9] at HDD HD9 HINS
              clear hDl hDd hT9 hD9
              go_region_held_law (fun w' => True) (trivial)
                (first
                  | (refine step_app_ints rfl (.tmp 46) (.tmp 49) 33 rfl wr.heap.size 3 i0 8 Try.underlying33 hi hz0 hz1 hz2 (by omega) (.slice (some ⟨wr.heap.size, 0, none⟩) 0 0) [] rfl (by first | exact OwnI.empty (Nat.le_refl _) | exact (OwnI.empty (Nat.le_refl _)).alloc _) (some ⟨b3, off3, none⟩) j _ T9 HDL.out rfl (by first | exact HT9.out.up (dc_drew (below_alloc_new _)) | exact HT9.out.up (dc_drew (below_new (below_alloc_new _) _))) (by first | (simp; done) | (simp; omega)) (by first | (simp; done) | (simp; omega)) ?_
                     intro v5 w5 ho5 hg5 hb5
                     have HB5 : Below wr.heap.size wr w5 := by first | exact (dc_drew (below_alloc_new _)).trans hb5 | exact (dc_drew (below_new (below_alloc_new _) _)).trans hb5
                     try (have hbx : w5.cell? ⟨wr.heap.size + 1, 0, none⟩ = some (.int .i64 x) := hg5.out.cell (show World.cell? _ _ = _ from box_n9 _ _ _ _) (by simp [Value.ownBlock]))
                     clear hb5 hg5)
                  | (refine step_app_ints rfl (.tmp 46) (.tmp 49) 33 rfl wr.heap.size 3 i0 8 Try.underlying33 hi hz0 hz1 hz2 (by omega) (.slice (some ⟨wr.heap.size + 1, 0, none⟩) 0 0) [] rfl (by first | exact ownI_second _ _ _) (some ⟨b3, off3, none⟩) j _ T9 HDL.out rfl (by first | exact HT9.out.up (dc_drew (below_alloc_new _)) | exact HT9.out.up (dc_drew (below_new (below_alloc_new _) _))) (by first | (simp; done) | (simp; omega)) (by first | (simp; done) | (simp; omega)) ?_
                     intro v5 w5 ho5 hg5 hb5
                     have HB5 : Below wr.heap.size wr w5 := by first | exact (dc_drew (below_alloc_new _)).trans hb5 | exact (dc_drew (below_new (below_alloc_new _) _)).trans hb5
                     try (have hbx : w5.cell? ⟨wr.heap.size, 0, none⟩ = some (.int .i64 x) := hg5.out.cell (show World.cell? _ _ = _ from box_o9 _ _ _ _) (by simp [Value.ownBlock]))
                     clear hb5 hg5)
                  | (refine step_app_ints rfl (.tmp 50) (.tmp 52) 33 rfl wr.heap.size 3 i0 8 Try.underlying33 hi hz0 hz1 hz2 (by omega) v5 T9 rfl (by first | exact ho5.out | exact ho5.out.alloc _) (some ⟨_, 0, none⟩) 1 _ [x] rfl rfl (by first | exact ints_one hbx (World.block_lt_of_cell? _ _ hbx) | exact ints_one (box1_at _ _ _) (by simp)) (by rw [HDL.out]; omega) (by have := HB5.size; first | exact this | (simp; omega)) ?_
                     intro v6 w6 ho6 hg6 hb6
                     have HB6 : Below wr.heap.size wr w6 := by first | exact HB5.trans hb6 | exact (below_new HB5 _).trans hb6
                     clear hb6 hg6)
                  | (refine step_app_ints rfl (.tmp 53) (.tmp 56) 33 rfl wr.heap.size 3 i0 8 Try.underlying33 hi hz0 hz1 hz2 (by omega) v6 (T9 ++ [x]) rfl ho6.out (some ⟨b3, off3 + j, none⟩) _ _ D9 HDD.out rfl (HD9.out.up HB6) (by rw [List.length_append, HDL.out]; first | (simp; done) | (simp; omega)) HB6.size ?_
                     intro v7 w7 ho7 hg7 hb7
                     have HB7 := HB6.trans hb7
                     clear hb7 hg7))
              all_goals
                have HO7 : Hid (OwnI .i64 3 w7 s0 v7 (datesL (K.take (k + 1)))) := Lib.hid (by rw [HINS.out]; have h9 := ho7.out.low (Nat.le_of_lt hsz); simpa using h9)
                have HNZ7 : Hid (datesL (K.take (k + 1)) = [] → v7 = .slice none 0 0) := Lib.hid (fun h9 => by
                  rw [HINS.out] at h9; exact absurd h9 (by simp))
                have HEB7 := Lib.hid (HEB.out.up HB7)
                have HY7 := Lib.hid (HY.out.up HB7)
                have hB7 : Below s0 w w7 := hB.trans (HB7.mono (Nat.le_of_lt hsz))
                clear ho5 ho6 ho7 HB5 HB6 HB7
                go_wp2_with fail
                go_roundg (m - (k + 1))
                case measure => omega
                case rel => exact ⟨k + 1, by go_num, by omega, by omega, HO7, HNZ7, HEB7, HY7, hB7⟩
        · obtain rfl : j = q := by omega
          have hjz : ¬ (j : Int) < (j : Int) := by omega
          have hDD := HQ.out
          have hins : insD x D = D ++ [x] := by
            rw [insD_at (k := j) (by omega) HLT.out (fun h => by omega), if_neg (fun h => by omega), ← hDD, List.take_length, List.drop_length]
          have HINS : Hid (datesL (K.take (k + 1)) = D ++ x :: []) := Lib.hid (HTKx.out.trans hins)
          have HT9 := Lib.hid HI3.out
          have HDL := Lib.hid hDD
          have hnz := hNZ.out
          have hnil : j = 0 → (.slice A3 j cp3 : Value) = .slice none 0 0 := fun h => hnz (List.eq_nil_of_length_eq_zero (by omega))
          have hcap : j ≤ cp3 := by
            rcases hO.out.2 with ⟨h9, h8⟩ | ⟨g, cap, cur, h9, -, -, h8, -⟩
            · omega
            · cases h9; omega
          clear hDD hins hnz
          obtain ⟨T9, hT9⟩ : ∃ T9, D = T9 := ⟨_, rfl⟩
          rw [hT9] at HDL HT9 HINS
          clear hT9
          rcases Nat.eq_zero_or_pos j with h0 | h0
          · have h9 := hnil h0
            subst h0
            cases h9
            clear hnil hcap
            go_wp2_with fail
            go_region_held_law (fun w' => True) (trivial)
              (first
                | (refine step_app_ints rfl (.tmp 46) (.tmp 49) 33 rfl wr.heap.size 3 i0 8 Try.underlying33 hi hz0 hz1 hz2 (by omega) (.slice (some ⟨wr.heap.size, 0, none⟩) 0 0) [] rfl (by first | exact OwnI.empty (Nat.le_refl _) | exact (OwnI.empty (Nat.le_refl _)).alloc _) none 0 _ T9 HDL.out rfl (by rw [List.eq_nil_of_length_eq_zero HDL.out]; exact IntsAt.nil) (by first | (simp; done) | (simp; omega)) (by first | (simp; done) | (simp; omega)) ?_
                   intro v5 w5 ho5 hg5 hb5
                   have HB5 : Below wr.heap.size wr w5 := by first | exact (dc_drew (below_alloc_new _)).trans hb5 | exact (dc_drew (below_new (below_alloc_new _) _)).trans hb5
                   try (have hbx : w5.cell? ⟨wr.heap.size + 1, 0, none⟩ = some (.int .i64 x) := hg5.out.cell (show World.cell? _ _ = _ from box_n9 _ _ _ _) (by simp [Value.ownBlock]))
                   clear hb5 hg5)
                | (refine step_app_ints rfl (.tmp 46) (.tmp 49) 33 rfl wr.heap.size 3 i0 8 Try.underlying33 hi hz0 hz1 hz2 (by omega) (.slice (some ⟨wr.heap.size + 1, 0, none⟩) 0 0) [] rfl (by first | exact ownI_second _ _ _) none 0 _ T9 HDL.out rfl (by rw [List.eq_nil_of_length_eq_zero HDL.out]; exact IntsAt.nil) (by first | (simp; done) | (simp; omega)) (by first | (simp; done) | (simp; omega)) ?_
                   intro v5 w5 ho5 hg5 hb5
                   have HB5 : Below wr.heap.size wr w5 := by first | exact (dc_drew (below_alloc_new _)).trans hb5 | exact (dc_drew (below_new (below_alloc_new _) _)).trans hb5
                   try (have hbx : w5.cell? ⟨wr.heap.size, 0, none⟩ = some (.int .i64 x) := hg5.out.cell (show World.cell? _ _ = _ from box_o9 _ _ _ _) (by simp [Value.ownBlock]))
                   clear hb5 hg5)
                | (refine step_app_ints rfl (.tmp 50) (.tmp 52) 33 rfl wr.heap.size 3 i0 8 Try.underlying33 hi hz0 hz1 hz2 (by omega) v5 T9 rfl (by first | exact ho5.out | exact ho5.out.alloc _) (some ⟨_, 0, none⟩) 1 _ [x] rfl rfl (by first | exact ints_one hbx (World.block_lt_of_cell? _ _ hbx) | exact ints_one (box1_at _ _ _) (by simp)) (by rw [HDL.out]; omega) (by have := HB5.size; first | exact this | (simp; omega)) ?_
                   intro v6 w6 ho6 hg6 hb6
                   have HB6 : Below wr.heap.size wr w6 := by first | exact HB5.trans hb6 | exact (below_new HB5 _).trans hb6
                   clear hb6 hg6)
                | (refine step_app_ints rfl (.tmp 53) (.tmp 56) 33 rfl wr.heap.size 3 i0 8 Try.underlying33 hi hz0 hz1 hz2 (by omega) v6 (T9 ++ [x]) rfl ho6.out _ _ _ [] rfl rfl IntsAt.nil (by rw [List.length_append, HDL.out]; first | (simp; done) | (simp; omega)) HB6.size ?_
                   intro v7 w7 ho7 hg7 hb7
                   have HB7 := HB6.trans hb7
                   clear hb7 hg7))
            all_goals
              have HO7 : Hid (OwnI .i64 3 w7 s0 v7 (datesL (K.take (k + 1)))) := Lib.hid (by rw [HINS.out]; have h9 := ho7.out.low (Nat.le_of_lt hsz); simpa using h9)
              have HNZ7 : Hid (datesL (K.take (k + 1)) = [] → v7 = .slice none 0 0) := Lib.hid (fun h9 => by
                rw [HINS.out] at h9; exact absurd h9 (by simp))
              have HEB7 := Lib.hid (HEB.out.up HB7)
              have HY7 := Lib.hid (HY.out.up HB7)
              have hB7 : Below s0 w w7 := hB.trans (HB7.mono (Nat.le_of_lt hsz))
              clear ho5 ho6 ho7 HB5 HB6 HB7
              go_wp2_with fail
              go_roundg (m - (k + 1))
              case measure => omega
              case rel => exact ⟨k + 1, by go_num, by omega, by omega, HO7, HNZ7, HEB7, HY7, hB7⟩
          · obtain ⟨b3, off3, e3, hb3, hc3⟩ := HI3.out (by rw [HQ.out]; omega)
            subst e3
            have hjc : (j : Int) ≤ (cp3 : Int) := by omega
            clear hc3 hnil
            by_cases hcj : cp3 = j
            · subst hcj
              go_wp2_with fail
              go_region_held_law (fun w' => True) (trivial)
                (first
                  | (refine step_app_ints rfl (.tmp 46) (.tmp 49) 33 rfl wr.heap.size 3 i0 8 Try.underlying33 hi hz0 hz1 hz2 (by omega) (.slice (some ⟨wr.heap.size, 0, none⟩) 0 0) [] rfl (by first | exact OwnI.empty (Nat.le_refl _) | exact (OwnI.empty (Nat.le_refl _)).alloc _) (some ⟨b3, off3, none⟩) cp3 _ T9 HDL.out rfl (by first | exact HT9.out.up (dc_drew (below_alloc_new _)) | exact HT9.out.up (dc_drew (below_new (below_alloc_new _) _))) (by first | (simp; done) | (simp; omega)) (by first | (simp; done) | (simp; omega)) ?_
                     intro v5 w5 ho5 hg5 hb5
                     have HB5 : Below wr.heap.size wr w5 := by first | exact (dc_drew (below_alloc_new _)).trans hb5 | exact (dc_drew (below_new (below_alloc_new _) _)).trans hb5
                     try (have hbx : w5.cell? ⟨wr.heap.size + 1, 0, none⟩ = some (.int .i64 x) := hg5.out.cell (show World.cell? _ _ = _ from box_n9 _ _ _ _) (by simp [Value.ownBlock]))
                     clear hb5 hg5)
                  | (refine step_app_ints rfl (.tmp 46) (.tmp 49) 33 rfl wr.heap.size 3 i0 8 Try.underlying33 hi hz0 hz1 hz2 (by omega) (.slice (some ⟨wr.heap.size + 1, 0, none⟩) 0 0) [] rfl (by first | exact ownI_second _ _ _) (some ⟨b3, off3, none⟩) cp3 _ T9 HDL.out rfl (by first | exact HT9.out.up (dc_drew (below_alloc_new _)) | exact HT9.out.up (dc_drew (below_new (below_alloc_new _) _))) (by first | (simp; done) | (simp; omega)) (by first | (simp; done) | (simp; omega)) ?_
                     intro v5 w5 ho5 hg5 hb5
                     have HB5 : Below wr.heap.size wr w5 := by first | exact (dc_drew (below_alloc_new _)).trans hb5 | exact (dc_drew (below_new (below_alloc_new _) _)).trans hb5
                     try (have hbx : w5.cell? ⟨wr.heap.size, 0, none⟩ = some (.int .i64 x) := hg5.out.cell (show World.cell? _ _ = _ from box_o9 _ _ _ _) (by simp [Value.ownBlock]))
                     clear hb5 hg5)
                  | (refine step_app_ints rfl (.tmp 50) (.tmp 52) 33 rfl wr.heap.size 3 i0 8 Try.underlying33 hi hz0 hz1 hz2 (by omega) v5 T9 rfl (by first | exact ho5.out | exact ho5.out.alloc _) (some ⟨_, 0, none⟩) 1 _ [x] rfl rfl (by first | exact ints_one hbx (World.block_lt_of_cell? _ _ hbx) | exact ints_one (box1_at _ _ _) (by simp)) (by rw [HDL.out]; omega) (by have := HB5.size; first | exact this | (simp; omega)) ?_
                     intro v6 w6 ho6 hg6 hb6
                     have HB6 : Below wr.heap.size wr w6 := by first | exact HB5.trans hb6 | exact (below_new HB5 _).trans hb6
                     clear hb6 hg6)
                  | (refine step_app_ints rfl (.tmp 53) (.tmp 56) 33 rfl wr.heap.size 3 i0 8 Try.underlying33 hi hz0 hz1 hz2 (by omega) v6 (T9 ++ [x]) rfl ho6.out _ _ _ [] (by simp) rfl IntsAt.nil (by rw [List.length_append, HDL.out]; first | (simp; done) | (simp; omega)) HB6.size ?_
                     intro v7 w7 ho7 hg7 hb7
                     have HB7 := HB6.trans hb7
                     clear hb7 hg7))
              all_goals
                have HO7 : Hid (OwnI .i64 3 w7 s0 v7 (datesL (K.take (k + 1)))) := Lib.hid (by rw [HINS.out]; have h9 := ho7.out.low (Nat.le_of_lt hsz); simpa using h9)
                have HNZ7 : Hid (datesL (K.take (k + 1)) = [] → v7 = .slice none 0 0) := Lib.hid (fun h9 => by
                  rw [HINS.out] at h9; exact absurd h9 (by simp))
                have HEB7 := Lib.hid (HEB.out.up HB7)
                have HY7 := Lib.hid (HY.out.up HB7)
                have hB7 : Below s0 w w7 := hB.trans (HB7.mono (Nat.le_of_lt hsz))
                clear ho5 ho6 ho7 HB5 HB6 HB7
                go_wp2_with fail
                go_roundg (m - (k + 1))
                case measure => omega
                case rel => exact ⟨k + 1, by go_num, by omega, by omega, HO7, HNZ7, HEB7, HY7, hB7⟩
            · go_wp2_with fail
              go_region_held_law (fun w' => True) (trivial)
                (first
                  | (refine step_app_ints rfl (.tmp 46) (.tmp 49) 33 rfl wr.heap.size 3 i0 8 Try.underlying33 hi hz0 hz1 hz2 (by omega) (.slice (some ⟨wr.heap.size, 0, none⟩) 0 0) [] rfl (by first | exact OwnI.empty (Nat.le_refl _) | exact (OwnI.empty (Nat.le_refl _)).alloc _) (some ⟨b3, off3, none⟩) j _ T9 HDL.out rfl (by first | exact HT9.out.up (dc_drew (below_alloc_new _)) | exact HT9.out.up (dc_drew (below_new (below_alloc_new _) _))) (by first | (simp; done) | (simp; omega)) (by first | (simp; done) | (simp; omega)) ?_
                     intro v5 w5 ho5 hg5 hb5
                     have HB5 : Below wr.heap.size wr w5 := by first | exact (dc_drew (below_alloc_new _)).trans hb5 | exact (dc_drew (below_new (below_alloc_new _) _)).trans hb5
                     try (have hbx : w5.cell? ⟨wr.heap.size + 1, 0, none⟩ = some (.int .i64 x) := hg5.out.cell (show World.cell? _ _ = _ from box_n9 _ _ _ _) (by simp [Value.ownBlock]))
                     clear hb5 hg5)
                  | (refine step_app_ints rfl (.tmp 46) (.tmp 49) 33 rfl wr.heap.size 3 i0 8 Try.underlying33 hi hz0 hz1 hz2 (by omega) (.slice (some ⟨wr.heap.size + 1, 0, none⟩) 0 0) [] rfl (by first | exact ownI_second _ _ _) (some ⟨b3, off3, none⟩) j _ T9 HDL.out rfl (by first | exact HT9.out.up (dc_drew (below_alloc_new _)) | exact HT9.out.up (dc_drew (below_new (below_alloc_new _) _))) (by first | (simp; done) | (simp; omega)) (by first | (simp; done) | (simp; omega)) ?_
                     intro v5 w5 ho5 hg5 hb5
                     have HB5 : Below wr.heap.size wr w5 := by first | exact (dc_drew (below_alloc_new _)).trans hb5 | exact (dc_drew (below_new (below_alloc_new _) _)).trans hb5
                     try (have hbx : w5.cell? ⟨wr.heap.size, 0, none⟩ = some (.int .i64 x) := hg5.out.cell (show World.cell? _ _ = _ from box_o9 _ _ _ _) (by simp [Value.ownBlock]))
                     clear hb5 hg5)
                  | (refine step_app_ints rfl (.tmp 50) (.tmp 52) 33 rfl wr.heap.size 3 i0 8 Try.underlying33 hi hz0 hz1 hz2 (by omega) v5 T9 rfl (by first | exact ho5.out | exact ho5.out.alloc _) (some ⟨_, 0, none⟩) 1 _ [x] rfl rfl (by first | exact ints_one hbx (World.block_lt_of_cell? _ _ hbx) | exact ints_one (box1_at _ _ _) (by simp)) (by rw [HDL.out]; omega) (by have := HB5.size; first | exact this | (simp; omega)) ?_
                     intro v6 w6 ho6 hg6 hb6
                     have HB6 : Below wr.heap.size wr w6 := by first | exact HB5.trans hb6 | exact (below_new HB5 _).trans hb6
                     clear hb6 hg6)
                  | (refine step_app_ints rfl (.tmp 53) (.tmp 56) 33 rfl wr.heap.size 3 i0 8 Try.underlying33 hi hz0 hz1 hz2 (by omega) v6 (T9 ++ [x]) rfl ho6.out _ _ _ [] (by simp) rfl IntsAt.nil (by rw [List.length_append, HDL.out]; first | (simp; done) | (simp; omega)) HB6.size ?_
                     intro v7 w7 ho7 hg7 hb7
                     have HB7 := HB6.trans hb7
                     clear hb7 hg7))
              all_goals
                have HO7 : Hid (OwnI .i64 3 w7 s0 v7 (datesL (K.take (k + 1)))) := Lib.hid (by rw [HINS.out]; have h9 := ho7.out.low (Nat.le_of_lt hsz); simpa using h9)
                have HNZ7 : Hid (datesL (K.take (k + 1)) = [] → v7 = .slice none 0 0) := Lib.hid (fun h9 => by
                  rw [HINS.out] at h9; exact absurd h9 (by simp))
                have HEB7 := Lib.hid (HEB.out.up HB7)
                have HY7 := Lib.hid (HY.out.up HB7)
                have hB7 : Below s0 w w7 := hB.trans (HB7.mono (Nat.le_of_lt hsz))
                clear ho5 ho6 ho7 HB5 HB6 HB7
                go_wp2_with fail
                go_roundg (m - (k + 1))
                case measure => omega
                case rel => exact ⟨k + 1, by go_num, by omega, by omega, HO7, HNZ7, HEB7, HY7, hB7⟩
    · obtain rfl : k = m := by omega
      have hltz : ¬ (k : Int) < (k : Int) := by omega
      have ho := hO.out
      rw [HTE.out k (Nat.le_refl _)] at ho
      have HO := Lib.hid ho.sli
      clear ho
      go_wp2_with fail
      go_ret
      exact ⟨_, rfl, HO.out, by first | exact hB | (rw [HS0.out]; exact hB)⟩
def maF (nm cur : ByteArray) (A : Option Addr) (n c : Nat) (B : Option Addr) (m d : Nat) (jt : Bool) (_s0 _nd : Nat) (te ee : Int) (D : List Int) : List (Nat × AS.Fact) := [(30, AS.Fact.is (.int .i64 te)), (31, AS.Fact.is (.int .i64 te)), (32, AS.Fact.is (.bool true)), (33, AS.Fact.is (.bool true)), (34, AS.Fact.is (.int .i64 ee)), (35, AS.Fact.is (.int .i64 ee)), (36, AS.Fact.is (.bool true)), (37, AS.Fact.is (.bool true)), (38, AS.Fact.is (.bool true)), (39, AS.Fact.is (.agg #[.string nm, .string cur, .slice A n c, .slice B m d, .bool jt])), (40, HSl D), (41, AS.Fact.is (.agg #[.string nm, .string cur, .slice A n c, .slice B m d, .bool jt])), (42, HSl D), (43, AS.Fact.is (.bool true)), (44, AS.Fact.is (.bool true)), (6, AS.Fact.is (.bool true))]
set_option maxRecDepth 20000 in
set_option maxHeartbeats 3200000 in
theorem law_mpat (nm cur : ByteArray) (A : Option Addr) (n c : Nat) (L : List Acc) (B : Option Addr) (m d : Nat) (K : List Lnk) (jt : Bool) (code day : Int) (w : World) (hk : EntK w A n L B m K) :
  Calls Try.prog 4 #[entV nm cur A n c B m d jt, .int .i64 code, .int .i64 day] w fun e w' => e = .returned (.bool true) ∧ Below w.heap.size w w' := by
 have hB := below_alloc_new (w := w) (.cells #[.string nm, .string cur, .slice A n c, .slice B m d, .bool jt] 25)
 have HE := Lib.hid (eb_new w 25 nm cur A n c B m d jt)
 have HZ := Lib.hid (hk.hz.up hB)
 have HY := Lib.hid (hk.hy.up hB)
 have hfw := fun w => rfew9_any nm cur A n c B m d jt w
 have hfq := fewB_is (nm := nm) (cur := cur) (n := n) (m := m)
 generalize fewB nm cur n m = fb at *
 obtain ⟨s0, hs0⟩ : ∃ s0, w.heap.size = s0 := ⟨_, rfl⟩
 rw [hs0] at hB
 have HS0 := Lib.hid hs0
 have HFW := Lib.hid hfw
 have HK := Lib.hid hk
 clear hk hfw hs0
 obtain ⟨c0, c1, c2, c3, c4, lt⟩ := HE.out
 cases fb
 ·clear hfq
  go_enter Try.func4, Try.ntmps4
  go_wp2_with (first
   | (go_at_call 9; refine (mpawake_any _).mono ?_; rintro e w1 ⟨rfl, hb⟩; replace HE := Lib.hid (HE.out.up hb); have hsq := hB.size; rw [HS0.out] at hsq; replace hB := hB.trans (hb.mono hsq); clear hb hsq c0 c1 c2 c3 c4 lt; obtain ⟨c0, c1, c2, c3, c4, lt⟩ := HE.out)
   | (go_at_call 10; (with_reducible refine (HFW.out _).mono ?_); rintro e w2 ⟨rfl, hb⟩; have hsq := hB.size; rw [HS0.out] at hsq; replace hB := hB.trans (hb.mono hsq); clear hb hsq))
  go_ret
  exact ⟨rfl, by rw [HS0.out]; exact hB⟩
 obtain ⟨h5, h6⟩ := hfq rfl
 have hK2 := HK.out
 have hln : L.length ≤ 1000 := by have := hK2.ln; omega
 have hlm : K.length ≤ 1000 := by have := hK2.lm; omega
 have h1 := fun w h h' => cat9_any nm cur A c L B d K jt code day w h h' hln hlm
 have h2 := fun w h h' => rat9_any nm cur A c L B d K jt code day w h h' hln hlm
 have h4 := fun w h => cdates_any nm cur A c n B d K jt w h hlm hK2.wl
 have h5' := fun w h => rdates9_any nm cur A n c B d K jt w h hlm
 rw [hK2.ln, hK2.lm] at h1 h2
 rw [hK2.lm] at h4 h5'
 have hdl := datesL_len (K := K)
 generalize datesL K = D at *
 obtain ⟨nd, hnd⟩ : ∃ nd, D.length = nd := ⟨_, rfl⟩
 have h6' := fun A B c d w h1 h2 => rsamec_any A B c d D D w h1 h2 (by omega) (by omega)
 rw [show decide (D = D) = true from by simp, hnd] at h6'
 obtain ⟨te, hte⟩ : ∃ te, atV L K code day = te := ⟨_, rfl⟩
 obtain ⟨ee, hee⟩ : ∃ ee, atE L K code day = ee := ⟨_, rfl⟩
 rw [hte, hee] at h1 h2
 have et : (te == te) = true := by simp
 have ett : (ee == ee) = true := by simp
 have H1 := Lib.hid h1
 have H2 := Lib.hid h2
 have H4 := Lib.hid h4
 have H5 := Lib.hid h5'
 have H6 := Lib.hid h6'
 have HND := Lib.hid hnd
 clear h1 h2 h4 h5' h6' hnd hte hee hdl hln hlm hK2 HK h5 h6 hfq
 go_enter Try.func4, Try.ntmps4
 go_wp2_with (first
  | (go_at_call 9; refine (mpawake_any _).mono ?_; rintro e w1 ⟨rfl, hb⟩; replace HE := Lib.hid (HE.out.up hb); replace HZ := Lib.hid (HZ.out.up hb); replace HY := Lib.hid (HY.out.up hb); have hsq := hB.size; rw [HS0.out] at hsq; replace hB := hB.trans (hb.mono hsq); clear hb hsq c0 c1 c2 c3 c4 lt; obtain ⟨c0, c1, c2, c3, c4, lt⟩ := HE.out)
  | (go_at_call 10; (with_reducible refine (HFW.out _).mono ?_); rintro e w1 ⟨rfl, hb⟩; replace HE := Lib.hid (HE.out.up hb); replace HZ := Lib.hid (HZ.out.up hb); replace HY := Lib.hid (HY.out.up hb); have hsq := hB.size; rw [HS0.out] at hsq; replace hB := hB.trans (hb.mono hsq); clear hb hsq c0 c1 c2 c3 c4 lt; obtain ⟨c0, c1, c2, c3, c4, lt⟩ := HE.out)
  | (go_at_call 13; (with_reducible refine (H1.out _ HZ.out HY.out).mono ?_); rintro e w1 ⟨rfl, hb⟩; replace HE := Lib.hid (HE.out.up hb); replace HZ := Lib.hid (HZ.out.up hb); replace HY := Lib.hid (HY.out.up hb); have hsq := hB.size; rw [HS0.out] at hsq; replace hB := hB.trans (hb.mono hsq); clear hb hsq c0 c1 c2 c3 c4 lt; obtain ⟨c0, c1, c2, c3, c4, lt⟩ := HE.out)
  | (go_at_call 14; (with_reducible refine (H2.out _ HZ.out HY.out).mono ?_); rintro e w1 ⟨rfl, hb⟩; replace HE := Lib.hid (HE.out.up hb); replace HZ := Lib.hid (HZ.out.up hb); replace HY := Lib.hid (HY.out.up hb); have hsq := hB.size; rw [HS0.out] at hsq; replace hB := hB.trans (hb.mono hsq); clear hb hsq c0 c1 c2 c3 c4 lt; obtain ⟨c0, c1, c2, c3, c4, lt⟩ := HE.out))
 rw [HS0.out] at HE ⊢
 rename World => wr
 have hsz : s0 ≤ wr.heap.size := by have := hB.size; have := HS0.out; omega
 clear c0 c1 c2 c3 c4 lt
 refine AS.region_facts (maF nm cur A n c B m d jt s0 nd te ee D) (HNo wr) [[], [], [30, 31], [32], [33], [33], [34, 35, 33], [33, 36], [37], [38], [39, 38], [38], [41, 38], [40, 42, 38], [38, 43], [44]] [] [[]] [0, 0, 0, 0, 0, 0, 0, 0, 0, 0, 0, 0, 0, 0, 0, 0] [] (fun u => by simp only [maF, AS.temps, List.map_cons, List.map_nil, fillL, List.setIfInBounds_toArray, List.set_cons_zero, List.set_cons_succ]; rfl) (by kernel_rfl) (by kernel_rfl) (HNo.st wr) (dc_drew (Below.refl _ _)) ?_ ?_
 ·refine AS.sc rfl rfl rfl ?_ ?_
  ·intro k_ u w_ hk_ hJ hF K hK
   clear hF
   go_simp
   exact hK.out _ _ (Below.refl _ _) (rfl) trivial
  refine AS.sc rfl rfl rfl ?_ ?_
  ·intro k_ u w_ hk_ hJ hF K hK
   clear hF
   go_simp
   exact hK.out _ _ (Below.refl _ _) (rfl) trivial
  refine AS.sc rfl rfl rfl ?_ ?_
  ·intro k_ u w_ hk_ hJ hF K hK
   have h30 : u 30 = .int .i64 te := AS.facts_get hF 30 (by simp)
   have h31 : u 31 = .int .i64 te := AS.facts_get hF 31 (by simp)
   clear hF
   simp only [h30, h31] at hK ⊢
   clear h30 h31
   go_simp
   exact hK.out _ _ (Below.refl _ _) (rfl) trivial
  refine AS.sc rfl rfl rfl ?_ ?_
  ·intro k_ u w_ hk_ hJ hF K hK
   have h32 : u 32 = .bool true := AS.facts_get hF 32 (by simp)
   clear hF
   simp only [h32] at hK ⊢
   clear h32
   go_simp
   exact hK.out _ _ (Below.refl _ _) (rfl) trivial
  refine AS.sc rfl rfl rfl ?_ ?_
  ·intro k_ u w_ hk_ hJ hF K hK
   have h33 : u 33 = .bool true := AS.facts_get hF 33 (by simp)
   clear hF
   simp only [h33] at hK ⊢
   clear h33
   go_simp
   exact hK.out _ _ (Below.refl _ _) (rfl) trivial
  refine AS.sc rfl rfl rfl ?_ ?_
  ·intro k_ u w_ hk_ hJ hF K hK
   have h33 : u 33 = .bool true := AS.facts_get hF 33 (by simp)
   clear hF
   simp only [h33] at hK ⊢
   clear h33
   go_simp
   exact hK.out _ _ (Below.refl _ _) (rfl) trivial
  refine AS.sc rfl rfl rfl ?_ ?_
  ·intro k_ u w_ hk_ hJ hF K hK
   have h34 : u 34 = .int .i64 ee := AS.facts_get hF 34 (by simp)
   have h35 : u 35 = .int .i64 ee := AS.facts_get hF 35 (by simp)
   have h33 : u 33 = .bool true := AS.facts_get hF 33 (by simp)
   clear hF
   simp only [h34, h35, h33] at hK ⊢
   clear h34 h35 h33
   go_simp
   exact hK.out _ _ (Below.refl _ _) (rfl) trivial
  refine AS.sc rfl rfl rfl ?_ ?_
  ·intro k_ u w_ hk_ hJ hF K hK
   have h33 : u 33 = .bool true := AS.facts_get hF 33 (by simp)
   have h36 : u 36 = .bool true := AS.facts_get hF 36 (by simp)
   clear hF
   simp only [h33, h36] at hK ⊢
   clear h33 h36
   go_simp
   exact hK.out _ _ (Below.refl _ _) (rfl) trivial
  refine AS.sc rfl rfl rfl ?_ ?_
  ·intro k_ u w_ hk_ hJ hF K hK
   have h37 : u 37 = .bool true := AS.facts_get hF 37 (by simp)
   clear hF
   simp only [h37] at hK ⊢
   clear h37
   go_simp
   exact hK.out _ _ (Below.refl _ _) (rfl) trivial
  refine AS.sc rfl rfl rfl ?_ ?_
  ·intro k_ u w_ hk_ hJ hF K hK
   have h38 : u 38 = .bool true := AS.facts_get hF 38 (by simp)
   clear hF
   simp only [h38] at hK ⊢
   clear h38
   obtain ⟨c0, c1, c2, c3, c4, lt⟩ := HE.out.up (hJ : Below wr.heap.size wr w_)
   go_simp
   exact hK.out _ _ (Below.refl _ _) (rfl) trivial
  refine AS.sc rfl rfl rfl ?_ ?_
  ·intro k_ u w_ hk_ hJ hF K hK
   have h39 : u 39 = .agg #[.string nm, .string cur, .slice A n c, .slice B m d, .bool jt] := AS.facts_get hF 39 (by simp)
   have h38 : u 38 = .bool true := AS.facts_get hF 38 (by simp)
   clear hF
   simp only [h39, h38] at hK ⊢
   clear h39 h38
   have hy9 := HY.out.up (hJ : Below wr.heap.size wr w_)
   go_simp
   refine (H4.out _ hy9).mono ?_
   rintro e w3 ⟨v, rfl, h9, hb⟩
   exact hK.out _ _ hb h9 trivial
  refine AS.sc rfl rfl rfl ?_ ?_
  ·intro k_ u w_ hk_ hJ hF K hK
   have h38 : u 38 = .bool true := AS.facts_get hF 38 (by simp)
   clear hF
   simp only [h38] at hK ⊢
   clear h38
   obtain ⟨c0, c1, c2, c3, c4, lt⟩ := HE.out.up (hJ : Below wr.heap.size wr w_)
   go_simp
   exact hK.out _ _ (Below.refl _ _) (rfl) trivial
  refine AS.sc rfl rfl rfl ?_ ?_
  ·intro k_ u w_ hk_ hJ hF K hK
   have h41 : u 41 = .agg #[.string nm, .string cur, .slice A n c, .slice B m d, .bool jt] := AS.facts_get hF 41 (by simp)
   have h38 : u 38 = .bool true := AS.facts_get hF 38 (by simp)
   clear hF
   simp only [h41, h38] at hK ⊢
   clear h41 h38
   have hy9 := HY.out.up (hJ : Below wr.heap.size wr w_)
   go_simp
   refine (H5.out _ hy9).mono ?_
   rintro e w3 ⟨v, rfl, h9, hb⟩
   exact hK.out _ _ hb h9 trivial
  refine AS.sc rfl rfl rfl ?_ ?_
  ·intro k_ u w_ hk_ hJ hF K hK
   have h40 : SlI w_ (u 40) D := AS.facts_get hF 40 (by simp)
   have h42 : SlI w_ (u 42) D := AS.facts_get hF 42 (by simp)
   have h38 : u 38 = .bool true := AS.facts_get hF 38 (by simp)
   clear hF
   obtain ⟨A8, d8, h40, hI8⟩ := h40
   rw [HND.out] at h40
   obtain ⟨A7, d7, h42, hI7⟩ := h42
   rw [HND.out] at h42
   simp only [h40, h42, h38] at hK ⊢
   clear h40 h42 h38
   go_simp
   refine (H6.out _ _ _ _ _ hI8 hI7).mono ?_
   rintro e w3 ⟨rfl, hb⟩
   exact hK.out _ _ hb (rfl) trivial
  refine AS.sc rfl rfl rfl ?_ ?_
  ·intro k_ u w_ hk_ hJ hF K hK
   have h38 : u 38 = .bool true := AS.facts_get hF 38 (by simp)
   have h43 : u 43 = .bool true := AS.facts_get hF 43 (by simp)
   clear hF
   simp only [h38, h43] at hK ⊢
   clear h38 h43
   go_simp
   exact hK.out _ _ (Below.refl _ _) (rfl) trivial
  refine AS.sc rfl rfl rfl ?_ ?_
  ·intro k_ u w_ hk_ hJ hF K hK
   have h44 : u 44 = .bool true := AS.facts_get hF 44 (by simp)
   clear hF
   simp only [h44] at hK ⊢
   clear h44
   go_simp
   exact hK.out _ _ (Below.refl _ _) (rfl) trivial
  exact AS.StepsOk.nil
 ·intro u W9 hJ9 hF
  have h6 : u 6 = .bool true := AS.facts_get hF 6 (by simp [maF, AS.temps])
  have hB9 : Below wr.heap.size wr W9 := hJ9
  clear hF hJ9
  simp only [h6]
  clear h6
  have hB8 := hB.trans (hB9.mono hsz)
  clear hB9
  go_wp2_with fail
  go_ret
  exact ⟨rfl, by first | exact hB8 | (rw [HS0.out]; exact hB8)⟩
end Go.Proofs.Ytmahnpbjjadipaa
