/- Contracts and the law of MappingMove, part 2: what was proved of each, callees first. -/
import Derived.Test.YtmahnpbjjadipaaMO1
namespace Go.Proofs.Ytmahnpbjjadipaa
open Go.RowKit Go.Maps
set_option maxRecDepth 20000 in
set_option maxHeartbeats 3200000 in
theorem cparts_any (nm cur : ByteArray) (A : Option Addr) (cp : Nat) (L : List Acc) (B : Option Addr) (d : Nat) (K : List Lnk) (jt : Bool) (w : World) (hz : AccAt w A L) (hy : LnkAt w B K) (hl : L.length ≤ 1000) (hm : K.length ≤ 1000) (hwa : WfC L) (hwl : ∀ l ∈ K, WfL l) :
  Calls Try.prog 37 #[entV nm cur A L.length cp B K.length d jt] w fun e w' => ∃ (mb base n : Nat) (f : Int → Option Value) (GA GB : Int → Value), e = .returned (.map (some mb)) ∧ PI w' mb base n f GA GB L K ∧ n ≤ 2000 ∧ Below w.heap.size w w' := by
 have hn := eb_new w 25 nm cur A L.length cp B K.length d jt
 have hB := below_alloc_new (w := w) (.cells #[.string nm, .string cur, .slice A L.length cp, .slice B K.length d, .bool jt] 25)
 have hMM := below_alloc_new (w := w.alloc (.cells #[.string nm, .string cur, .slice A L.length cp, .slice B K.length d, .bool jt] 25)) (.map #[] 0)
 have hM := MapV.made (w.alloc (.cells #[.string nm, .string cur, .slice A L.length cp, .slice B K.length d, .bool jt] 25))
 have eS : (w.alloc (.cells #[.string nm, .string cur, .slice A L.length cp, .slice B K.length d, .bool jt] 25)).heap.size = w.heap.size + 1 := by simp
 rw [eS] at hM
 have HEB := Lib.hid (hn.up hMM)
 have hB2 := below_more hB hMM
 have HPI : Hid (PI ((w.alloc (.cells #[.string nm, .string cur, .slice A L.length cp, .slice B K.length d, .bool jt] 25)).alloc (.map #[] 0)) (w.heap.size + 1) (w.heap.size + 2) 0 (fun _ => none) (fun _ => nilV) (fun _ => nilV) (L.take 0) []) := Lib.hid ⟨hM, Fam.none, fun _ => rfl⟩
 obtain ⟨n, hn2⟩ : ∃ n, L.length = n := ⟨_, rfl⟩
 obtain ⟨m, hm2⟩ : ∃ m, K.length = m := ⟨_, rfl⟩
 obtain ⟨s0, hs0⟩ : ∃ s0, w.heap.size = s0 := ⟨_, rfl⟩
 rw [hn2, hm2, hs0] at HEB HPI hB2
 rw [hn2] at hl ⊢
 rw [hm2] at hm ⊢
 rw [hs0]
 have HN := Lib.hid hn2
 have HM := Lib.hid hm2
 have HS0 := Lib.hid hs0
 have HZ := Lib.hid hz
 have HY := Lib.hid hy
 have HWA := Lib.hid hwa
 have HWL := Lib.hid hwl
 obtain ⟨iA, hiA, hA0, hA1, hA2⟩ := info_parts infoA
 obtain ⟨iL, hiL, hL0, hL1, hL2⟩ := info_parts infoL
 obtain ⟨c0, c1, c2, c3, c4, lt⟩ := HEB.out
 rw [← HS0.out] at c0 c1 c2 c3 c4 lt
 have hmm := @run_makeMap Try.prog
 clear hn hB hMM hM eS hn2 hm2 hz hy hwa hwl hs0
 go_enter Try.func37, Try.ntmps37
 go_wp2_with fail
 rw [HS0.out]
 clear c0 c1 c2 c3 c4 lt
 go_loopg [14] n (fun kx s14 wr => ∃ (k : Nat) (f : Int → Option Value) (GA GB : Int → Value), s14 = .int .i64 k ∧ k ≤ n ∧ n - k ≤ kx ∧ Hid (PI wr (s0 + 1) (s0 + 2) k f GA GB (L.take k) []) ∧ Hid (EB wr s0 nm cur A n cp B m d jt) ∧ Below s0 w wr)
 case atStart => exact ⟨0, _, _, _, rfl, by omega, by omega, HPI, HEB, hB2⟩
 case round =>
  clear HPI HEB hB2
  obtain ⟨k, f, GA, GB, rfl, hk, hkx, HPI, HEB, hB⟩ := hrel
  have hsz : s0 + 2 ≤ wr.heap.size := by have := HPI.out.map.lt; omega
  by_cases hlt : k < n
  ·have hltz : (k : Int) < (n : Int) := by omega
   obtain ⟨b, off, rfl, hbw, hcs⟩ := HZ.out (by rw [HN.out]; omega)
   have a4 := (hcs k (by rw [HN.out]; exact hlt)).up hB (by have := HS0.out; omega)
   obtain ⟨x, hx⟩ : ∃ x, L.getD k acc0 = x := ⟨_, rfl⟩
   rw [hx] at a4
   have HWX : Hid ((Lit.int .i64 x.code).wf = true) := Lib.hid (HWA.out x (by rw [← hx]; exact getD_mem_acc (by rw [HN.out]; exact hlt)))
   have HTK : Hid (L.take (k + 1) = L.take k ++ [x]) := Lib.hid (by rw [take_succ_getD (d := acc0) (by rw [HN.out]; exact hlt), hx])
   have hval := HPI.out.val x.code
   have hoA := HPI.out.fam.a x.code
   have hoB := HPI.out.fam.b x.code
   obtain ⟨A1, cp1, eA, _⟩ := hoA.reads
   obtain ⟨B1, d1, eB, _⟩ := hoB.reads
   obtain ⟨va, hva⟩ : ∃ va, GA x.code = va := ⟨_, rfl⟩
   obtain ⟨vb, hvb⟩ : ∃ vb, GB x.code = vb := ⟨_, rfl⟩
   rw [hva] at hval eA hoA
   rw [hvb] at hval eB hoB
   obtain ⟨n1, hn1⟩ : ∃ n1, (accC (L.take k) x.code).length = n1 := ⟨_, rfl⟩
   obtain ⟨m1, hm1⟩ : ∃ m1, (lnkC [] x.code).length = m1 := ⟨_, rfl⟩
   rw [hn1] at eA
   rw [hm1] at eB
   have hlen : n1 ≤ 100000000 := by have := accC_len (L := L.take k) (c := x.code); rw [List.length_take] at this; omega
   have hW1 := below_alloc_new (w := wr) (.cells #[.int .i64 x.code, .int .i64 x.kind, .int .i64 x.basis, .int .i64 x.par] 50)
   have hW2 := below_alloc_new (w := (wr.alloc (.cells #[.int .i64 x.code, .int .i64 x.kind, .int .i64 x.basis, .int .i64 x.par] 50))) (.cells #[.string ⟨#[]⟩, .string ⟨#[]⟩, .slice A1 n1 cp1, .slice B1 m1 d1, .bool false] 25)
   have hWb := below_more hW1 hW2
   have eW1 : (wr.alloc (.cells #[.int .i64 x.code, .int .i64 x.kind, .int .i64 x.basis, .int .i64 x.par] 50)).heap.size = wr.heap.size + 1 := by simp
   have hef := ef_new (wr.alloc (.cells #[.int .i64 x.code, .int .i64 x.kind, .int .i64 x.basis, .int .i64 x.par] 50)) 25 ⟨#[]⟩ ⟨#[]⟩ A1 n1 cp1 B1 m1 d1 false
   have hab := (ab_new wr 50 x).up hW2
   rw [eW1] at hef
   have eW2 : ((wr.alloc (.cells #[.int .i64 x.code, .int .i64 x.kind, .int .i64 x.basis, .int .i64 x.par] 50)).alloc (.cells #[.string ⟨#[]⟩, .string ⟨#[]⟩, .slice A1 n1 cp1, .slice B1 m1 d1, .bool false] 25)).heap.size = wr.heap.size + 2 := by simp
   have HOW := Lib.hid (hoA.up hWb)
   have HBW : Hid (Below s0 w ((wr.alloc (.cells #[.int .i64 x.code, .int .i64 x.kind, .int .i64 x.basis, .int .i64 x.par] 50)).alloc (.cells #[.string ⟨#[]⟩, .string ⟨#[]⟩, .slice A1 n1 cp1, .slice B1 m1 d1, .bool false] 25))) := Lib.hid (hB.trans (hWb.mono (by omega)))
   have HEW := Lib.hid (HEB.out.up hWb)
   have HMW := Lib.hid (HPI.out.map.up hWb)
   have HOLD := Lib.hid (fun g (hg9 : va.ownBlock = some g) => hoA.lt hg9)
   have HEF := Lib.hid hef
   have HAB := Lib.hid hab
   have HW1 := Lib.hid hWb
   have HE2 := Lib.hid eW2
   have HVA := Lib.hid hva
   have HVB := Lib.hid hvb
   have HN1 := Lib.hid hn1
   have HM1 := Lib.hid hm1
   subst eA
   subst eB
   have HVAL := Lib.hid hval
   have HPF := Lib.hid HPI.out.fam
   have HPV := Lib.hid HPI.out.val
   obtain ⟨p0, p1, p2, p3⟩ := a4
   obtain ⟨⟨q0, q1, q2, q3, q4, qlt⟩, qfz⟩ := HEF.out
   obtain ⟨⟨r0, r1, r2, r3⟩, rlt⟩ := HAB.out
   simp only [Nat.zero_add] at r1 r2 r3
   clear hcs hx hval hoA hoB hva hvb hn1 hm1 hW1 hW2 hWb eW1 hef hab eW2
   go_wp2_with (first
    | (at_lookup; refine wpList_mapv_look rfl _ _ _ 25 rfl Try.underlying67 ent_zero (s0 + 1) k f rfl (HPI.out.map.up (below_alloc_new _)) x.code rfl HWX.out ?_; rw [HVAL.out])
    | (at_builtin; refine wpList_append_ak _ rfl (.tmp 23) (.tmp 25) 22 rfl (s0 + 2) 50 iA 32 Try.underlying22 hiA hA0 hA1 hA2 (by omega) (.slice A1 n1 cp1) _ rfl HOW.out x _ 1 (by simp) rfl (by rw [HN1.out]; exact hlen) (by rw [HE2.out]; omega) ?_; intro v2 w2 ho2 hg2 hl2 hb2; obtain ⟨A2, c2, hv2, _⟩ := ho2.out.reads; obtain ⟨n2, hn2⟩ : ∃ n2, ((accC (L.take k) x.code) ++ [x]).length = n2 := ⟨_, rfl⟩; rw [hn2] at hv2; replace hn2 := Lib.hid hn2; have ne6 : ∀ g, wr.heap.size ≤ g → some g ≠ (.slice A1 n1 cp1 : Value).ownBlock := (fun g hg9 e9 => (by (have := HOLD.out _ e9.symm; omega))); have hk6 := hg2.out.block (wr.heap.size + 1) (by (rw [HE2.out]; omega)) (ne6 _ (by omega)); have hk5 := hg2.out.block wr.heap.size (by (rw [HE2.out]; omega)) (ne6 _ (by omega)); have hef2 := HEF.out.blk hk6; have hab2 := HAB.out.blk hk5; have HMP := Lib.hid (HMW.out.blk (hg2.out.block (s0 + 1) (by (rw [HE2.out]; omega)) (fun e9 => (by (have := HOLD.out _ e9.symm; omega))))); have HEE := Lib.hid (HEW.out.blk (hg2.out.block s0 (by (rw [HE2.out]; omega)) (fun e9 => (by (have := HOLD.out _ e9.symm; omega))))); have hsz2 := hg2.out.size; rw [HE2.out] at hsz2; have HB2 := Lib.hid (HBW.out.trans (hb2.mono (by omega))); clear hb2 hk5 hk6 ne6 q0 q1 q2 q3 q4 qlt qfz r0 r1 r2 rlt r3; subst hv2; obtain ⟨⟨q0, q1, q2, q3, q4, qlt⟩, qfz⟩ := hef2; obtain ⟨⟨r0, r1, r2, r3⟩, rlt⟩ := hab2; simp only [Nat.zero_add] at r1 r2 r3; have qf2 := qfz 2)
    | (at_mapUpdate; refine wpList_mapv_put rfl _ _ _ _ 25 rfl Try.underlying67 (s0 + 1) k f rfl (HMP.out.blk (Below.heap_setCell _ _ _ _ (by (show s0 + 1 ≠ wr.heap.size + 1; omega)))) x.code rfl (.agg #[.string ⟨#[]⟩, .string ⟨#[]⟩, .slice A2 n2 c2, .slice B1 m1 d1, .bool false]) rfl HWX.out (by omega) ?_; intro w4 hm4 hg4))
   have hkeep : ∀ g, g < w2.heap.size → g ≠ wr.heap.size + 1 → g ≠ s0 + 1 → w4.heap[g]? = w2.heap[g]? := fun g h1 h2 h3 => by
    rw [hg4.out.block g (by simpa [World.setCell] using h1) (fun e => h3 (by injection e)), Below.heap_setCell _ _ _ _ (by show g ≠ wr.heap.size + 1; exact h2)]
   have HFM : Hid (Fam w4 (s0 + 2) (fun c => if c = x.code then .slice A2 n2 c2 else GA c) (GB) (L.take (k + 1)) []) := Lib.hid (by
    rw [HTK.out]
    exact HPF.out.roundA (x := x) (v := .slice A2 n2 c2) (mb := s0 + 1) HW1.out HE2.out (by rw [HVA.out]; exact hg2.out) ho2.out (by rw [HVA.out]; exact hl2.out) hkeep (by omega))
   have HP2 : Hid (PI w4 (s0 + 1) (s0 + 2) (k + 1) (fun z => if z = x.code then some (.agg #[.string ⟨#[]⟩, .string ⟨#[]⟩, .slice A2 n2 c2, .slice B1 m1 d1, .bool false]) else f z) (fun c => if c = x.code then .slice A2 n2 c2 else GA c) (GB) (L.take (k + 1)) []) := Lib.hid ⟨hm4.out, HFM.out, fun c => by
    by_cases hc : c = x.code
    ·subst hc; simp only [if_true, Option.getD_some]; rw [HVB.out]
    ·simp only [if_neg hc]; exact HPV.out c⟩
   have HE4 : Hid (EB w4 s0 nm cur (some ⟨b, off, none⟩) n cp B m d jt) := Lib.hid (HEE.out.blk (hkeep s0 (by have := HEE.out.lt; exact this) (by omega) (by omega)))
   have hB4 : Below s0 w w4 := grown_below (Below.setCell (p := ⟨wr.heap.size + 1, 2, none⟩) HB2.out (by show s0 ≤ wr.heap.size + 1; omega) _) hg4.out (by omega) (by simp [World.setCell]; omega)
   go_roundg (n - (k + 1))
   case measure => omega
   case rel => exact ⟨k + 1, _, _, _, by go_num, by omega, by omega, HP2, HE4, hB4⟩
  ·obtain rfl : k = n := by omega
   have hltz : ¬ (k : Int) < (k : Int) := by omega
   have hPI := HPI.out
   rw [List.take_of_length_le (by rw [HN.out]; omega)] at hPI
   have HPI2 : Hid (PI wr (s0 + 1) (s0 + 2) k f GA GB L (K.take 0)) := Lib.hid hPI
   obtain ⟨c0, c1, c2, c3, c4, lt⟩ := HEB.out
   clear hPI HPI
   go_wp2_with fail
   clear c0 c1 c2 c3 c4 lt
   obtain ⟨n, hnk⟩ : ∃ n, k = n := ⟨_, rfl⟩
   subst hnk
   go_loopg [36] m (fun jx s36 wr => ∃ (j : Nat) (f : Int → Option Value) (GA GB : Int → Value), s36 = .int .i64 j ∧ j ≤ m ∧ m - j ≤ jx ∧ Hid (PI wr (s0 + 1) (s0 + 2) (k + j) f GA GB L (K.take j)) ∧ Hid (EB wr s0 nm cur A k cp B m d jt) ∧ Below s0 w wr)
   case atStart => exact ⟨0, _, _, _, rfl, by omega, by omega, HPI2, HEB, hB⟩
   case round =>
    clear HPI2 HEB hB
    obtain ⟨j, f, GA, GB, rfl, hk, hjx, HPI, HEB, hB⟩ := hrel
    have hsz : s0 + 2 ≤ wr.heap.size := by have := HPI.out.map.lt; omega
    by_cases hlt2 : j < m
    ·have hltz : (j : Int) < (m : Int) := by omega
     obtain ⟨b, off, rfl, hbw, hcs⟩ := HY.out (by rw [HM.out]; omega)
     have a4 := (hcs j (by rw [HM.out]; exact hlt2)).up hB (by have := HS0.out; omega)
     obtain ⟨x, hx⟩ : ∃ x, K.getD j lnk0 = x := ⟨_, rfl⟩
     rw [hx] at a4
     have HWX : Hid ((Lit.int .i64 x.frm).wf = true) := Lib.hid (HWL.out x (by rw [← hx]; exact getD_mem_acc (by rw [HM.out]; exact hlt2))).frm
     have HTK : Hid (K.take (j + 1) = K.take j ++ [x]) := Lib.hid (by rw [take_succ_getD (d := lnk0) (by rw [HM.out]; exact hlt2), hx])
     have hval := HPI.out.val x.frm
     have hoA := HPI.out.fam.a x.frm
     have hoB := HPI.out.fam.b x.frm
     obtain ⟨A1, cp1, eA, _⟩ := hoA.reads
     obtain ⟨B1, d1, eB, _⟩ := hoB.reads
     obtain ⟨va, hva⟩ : ∃ va, GA x.frm = va := ⟨_, rfl⟩
     obtain ⟨vb, hvb⟩ : ∃ vb, GB x.frm = vb := ⟨_, rfl⟩
     rw [hva] at hval eA hoA
     rw [hvb] at hval eB hoB
     obtain ⟨n1, hn1⟩ : ∃ n1, (accC L x.frm).length = n1 := ⟨_, rfl⟩
     obtain ⟨m1, hm1⟩ : ∃ m1, (lnkC (K.take j) x.frm).length = m1 := ⟨_, rfl⟩
     rw [hn1] at eA
     rw [hm1] at eB
     have hlen : m1 ≤ 100000000 := by have := lnkC_len (L := K.take j) (c := x.frm); rw [List.length_take] at this; omega
     have hW1 := below_alloc_new (w := wr) (.cells #[.int .i64 x.frm, .int .i64 x.tgt, .int .i64 x.since] 46)
     have hW2 := below_alloc_new (w := (wr.alloc (.cells #[.int .i64 x.frm, .int .i64 x.tgt, .int .i64 x.since] 46))) (.cells #[.string ⟨#[]⟩, .string ⟨#[]⟩, .slice A1 n1 cp1, .slice B1 m1 d1, .bool false] 25)
     have hWb := below_more hW1 hW2
     have eW1 : (wr.alloc (.cells #[.int .i64 x.frm, .int .i64 x.tgt, .int .i64 x.since] 46)).heap.size = wr.heap.size + 1 := by simp
     have hef := ef_new (wr.alloc (.cells #[.int .i64 x.frm, .int .i64 x.tgt, .int .i64 x.since] 46)) 25 ⟨#[]⟩ ⟨#[]⟩ A1 n1 cp1 B1 m1 d1 false
     have hab := (lb_new wr 46 x).up hW2
     rw [eW1] at hef
     have eW2 : ((wr.alloc (.cells #[.int .i64 x.frm, .int .i64 x.tgt, .int .i64 x.since] 46)).alloc (.cells #[.string ⟨#[]⟩, .string ⟨#[]⟩, .slice A1 n1 cp1, .slice B1 m1 d1, .bool false] 25)).heap.size = wr.heap.size + 2 := by simp
     have HOW := Lib.hid (hoB.up hWb)
     have HBW : Hid (Below s0 w ((wr.alloc (.cells #[.int .i64 x.frm, .int .i64 x.tgt, .int .i64 x.since] 46)).alloc (.cells #[.string ⟨#[]⟩, .string ⟨#[]⟩, .slice A1 n1 cp1, .slice B1 m1 d1, .bool false] 25))) := Lib.hid (hB.trans (hWb.mono (by omega)))
     have HEW := Lib.hid (HEB.out.up hWb)
     have HMW := Lib.hid (HPI.out.map.up hWb)
     have HOLD := Lib.hid (fun g (hg9 : vb.ownBlock = some g) => hoB.lt hg9)
     have HEF := Lib.hid hef
     have HAB := Lib.hid hab
     have HW1 := Lib.hid hWb
     have HE2 := Lib.hid eW2
     have HVA := Lib.hid hva
     have HVB := Lib.hid hvb
     have HN1 := Lib.hid hn1
     have HM1 := Lib.hid hm1
     subst eA
     subst eB
     have HVAL := Lib.hid hval
     have HPF := Lib.hid HPI.out.fam
     have HPV := Lib.hid HPI.out.val
     obtain ⟨p0, p1, p2⟩ := a4
     obtain ⟨⟨q0, q1, q2, q3, q4, qlt⟩, qfz⟩ := HEF.out
     obtain ⟨⟨r0, r1, r2⟩, rlt⟩ := HAB.out
     simp only [Nat.zero_add] at r1 r2
     clear hcs hx hval hoA hoB hva hvb hn1 hm1 hW1 hW2 hWb eW1 hef hab eW2
     go_wp2_with (first
      | (at_lookup; refine wpList_mapv_look rfl _ _ _ 25 rfl Try.underlying67 ent_zero (s0 + 1) (k + j) f rfl (HPI.out.map.up (below_alloc_new _)) x.frm rfl HWX.out ?_; rw [HVAL.out])
      | (at_builtin; refine wpList_append_lk _ rfl (.tmp 45) (.tmp 47) 23 rfl (s0 + 2) 46 iL 24 Try.underlying23 hiL hL0 hL1 hL2 (by omega) (.slice B1 m1 d1) _ rfl HOW.out x _ 1 (by simp) rfl (by rw [HM1.out]; exact hlen) (by rw [HE2.out]; omega) ?_; intro v2 w2 ho2 hg2 hl2 hb2; obtain ⟨A2, c2, hv2, _⟩ := ho2.out.reads; obtain ⟨n2, hn2⟩ : ∃ n2, ((lnkC (K.take j) x.frm) ++ [x]).length = n2 := ⟨_, rfl⟩; rw [hn2] at hv2; replace hn2 := Lib.hid hn2; have ne6 : ∀ g, wr.heap.size ≤ g → some g ≠ (.slice B1 m1 d1 : Value).ownBlock := (fun g hg9 e9 => (by (have := HOLD.out _ e9.symm; omega))); have hk6 := hg2.out.block (wr.heap.size + 1) (by (rw [HE2.out]; omega)) (ne6 _ (by omega)); have hk5 := hg2.out.block wr.heap.size (by (rw [HE2.out]; omega)) (ne6 _ (by omega)); have hef2 := HEF.out.blk hk6; have hab2 := HAB.out.blk hk5; have HMP := Lib.hid (HMW.out.blk (hg2.out.block (s0 + 1) (by (rw [HE2.out]; omega)) (fun e9 => (by (have := HOLD.out _ e9.symm; omega))))); have HEE := Lib.hid (HEW.out.blk (hg2.out.block s0 (by (rw [HE2.out]; omega)) (fun e9 => (by (have := HOLD.out _ e9.symm; omega))))); have hsz2 := hg2.out.size; rw [HE2.out] at hsz2; have HB2 := Lib.hid (HBW.out.trans (hb2.mono (by omega))); clear hb2 hk5 hk6 ne6 q0 q1 q2 q3 q4 qlt qfz r0 r1 r2 rlt; subst hv2; obtain ⟨⟨q0, q1, q2, q3, q4, qlt⟩, qfz⟩ := hef2; obtain ⟨⟨r0, r1, r2⟩, rlt⟩ := hab2; simp only [Nat.zero_add] at r1 r2; have qf2 := qfz 3)
      | (at_mapUpdate; refine wpList_mapv_put rfl _ _ _ _ 25 rfl Try.underlying67 (s0 + 1) (k + j) f rfl (HMP.out.blk (Below.heap_setCell _ _ _ _ (by (show s0 + 1 ≠ wr.heap.size + 1; omega)))) x.frm rfl (.agg #[.string ⟨#[]⟩, .string ⟨#[]⟩, .slice A1 n1 cp1, .slice A2 n2 c2, .bool false]) rfl HWX.out (by omega) ?_; intro w4 hm4 hg4))
     have hkeep : ∀ g, g < w2.heap.size → g ≠ wr.heap.size + 1 → g ≠ s0 + 1 → w4.heap[g]? = w2.heap[g]? := fun g h1 h2 h3 => by
      rw [hg4.out.block g (by simpa [World.setCell] using h1) (fun e => h3 (by injection e)), Below.heap_setCell _ _ _ _ (by show g ≠ wr.heap.size + 1; exact h2)]
     have HFM : Hid (Fam w4 (s0 + 2) (GA) (fun c => if c = x.frm then .slice A2 n2 c2 else GB c) L (K.take (j + 1))) := Lib.hid (by
      rw [HTK.out]
      exact HPF.out.roundB (x := x) (v := .slice A2 n2 c2) (mb := s0 + 1) HW1.out HE2.out (by rw [HVB.out]; exact hg2.out) ho2.out (by rw [HVB.out]; exact hl2.out) hkeep (by omega))
     have HP2 : Hid (PI w4 (s0 + 1) (s0 + 2) (k + j + 1) (fun z => if z = x.frm then some (.agg #[.string ⟨#[]⟩, .string ⟨#[]⟩, .slice A1 n1 cp1, .slice A2 n2 c2, .bool false]) else f z) (GA) (fun c => if c = x.frm then .slice A2 n2 c2 else GB c) L (K.take (j + 1))) := Lib.hid ⟨hm4.out, HFM.out, fun c => by
      by_cases hc : c = x.frm
      ·subst hc; simp only [if_true, Option.getD_some]; rw [HVA.out]
      ·simp only [if_neg hc]; exact HPV.out c⟩
     have HE4 : Hid (EB w4 s0 nm cur A k cp (some ⟨b, off, none⟩) m d jt) := Lib.hid (HEE.out.blk (hkeep s0 (by have := HEE.out.lt; exact this) (by omega) (by omega)))
     have hB4 : Below s0 w w4 := grown_below (Below.setCell (p := ⟨wr.heap.size + 1, 3, none⟩) HB2.out (by show s0 ≤ wr.heap.size + 1; omega) _) hg4.out (by omega) (by simp [World.setCell]; omega)
     go_roundg (m - (j + 1))
     case measure => omega
     case rel => exact ⟨j + 1, _, _, _, by go_num, by omega, by omega, HP2, HE4, hB4⟩
    ·obtain rfl : j = m := by omega
     have hltz : ¬ (j : Int) < (j : Int) := by omega
     have hPI := HPI.out
     rw [List.take_of_length_le (by rw [HM.out]; omega)] at hPI
     have HPI3 := Lib.hid hPI
     clear hPI HPI
     go_wp2_with fail
     go_ret
     exact ⟨_, rfl, _, _, ⟨_, _, _, HPI3.out⟩, by omega, hB⟩
theorem pick0_succ {l : List Bal} {k : Nat} (hk : k < l.length) : pick0 (l.take (k + 1)) = if (l.getD k bal0).amt = 0 then pick0 (l.take k) else pick0 (l.take k) ++ [l.getD k bal0] := by
 unfold pick0
 rw [take_succ_getD (d := bal0) hk, List.filter_append]
 split
 ·rename_i h; simp only [List.filter_cons, h, List.filter_nil]; simp
 ·rename_i h; rw [List.filter_cons, if_pos (by simpa using h), List.filter_nil]
theorem pick0_len {l : List Bal} : (pick0 l).length ≤ l.length := List.length_filter_le _ _
structure SI (w : World) (sb n : Nat) (f : Int → Option Value) (P : List Bal) : Prop where
 map : MapV w sb n f
 dom : ∀ t, (f t).isSome = true ↔ t ∈ P.map (·.acct)
 val : ∀ t, ∃ g r, (f t).getD (.agg #[.int .i64 0, .int .i64 0]) = sumV g r ∧ SumZ g r (ofS P t) ∧ -(2 * P.length : Int) ≤ g ∧ g ≤ 2 * P.length
 wf : ∀ t ∈ P.map (·.acct), (Lit.int .i64 t).wf = true
theorem SI.start {w : World} {sb : Nat} (h : MapV w sb 0 (fun _ => none)) : SI w sb 0 (fun _ => none) [] :=
 ⟨h, fun t => by simp, fun t => ⟨0, 0, rfl, ⟨by simp [ofS, sumI], by omega, by omega⟩, by simp, by simp⟩, fun t h => by simp at h⟩
theorem SI.up {w w2 : World} {sb n : Nat} {f : Int → Option Value} {P : List Bal} (h : SI w sb n f P) (hb : Below w.heap.size w w2) : SI w2 sb n f P := ⟨h.map.up hb, h.dom, h.val, h.wf⟩
theorem SI.step {w w4 : World} {sb n : Nat} {f : Int → Option Value} {P : List Bal} (h : SI w sb n f P) {te a g r : Int} (hv : (f te).getD (.agg #[.int .i64 0, .int .i64 0]) = sumV g r) (hz : SumZ g r (ofS P te))
  (hg : -(2 * P.length : Int) ≤ g ∧ g ≤ 2 * P.length) (ha : -1000000000000 ≤ a ∧ a ≤ 1000000000000) (hw : (Lit.int .i64 te).wf = true) (hm : MapV w4 sb (n + 1) (fun z => if z = te then some (sumV (plusG g r a) (plusR r a)) else f z)) :
  SI w4 sb (n + 1) (fun z => if z = te then some (sumV (plusG g r a) (plusR r a)) else f z) (P ++ [⟨te, a⟩]) := by
 refine ⟨hm, fun t => ?_, fun t => ?_, fun t ht => ?_⟩
 ·by_cases hc : t = te
  ·subst hc; simp
  ·simp only [if_neg hc]
   rw [h.dom t]; simp [hc]
 ·by_cases hc : t = te
  ·subst hc
   simp only [if_true, Option.getD_some]
   have hb := plus_bd (g := g) (r := r) (a := a) ⟨hz.lo, hz.hi⟩ ha
   refine ⟨_, _, rfl, ?_, ?_, ?_⟩
   ·rw [ofS_snoc, if_pos rfl]; exact plus_z hz
   ·rw [List.length_append, List.length_cons, List.length_nil]; omega
   ·rw [List.length_append, List.length_cons, List.length_nil]; omega
  ·simp only [if_neg hc]
   obtain ⟨g', r', e1, e2, e3, e4⟩ := h.val t
   refine ⟨g', r', e1, ?_, ?_, ?_⟩
   ·rw [ofS_snoc, if_neg (fun e => hc e.symm), Int.add_zero]; exact e2
   ·rw [List.length_append, List.length_cons, List.length_nil]; omega
   ·rw [List.length_append, List.length_cons, List.length_nil]; omega
 ·rw [List.map_append, List.mem_append] at ht
  rcases ht with ht | ht
  ·exact h.wf t ht
  ·simp at ht; rw [ht]; exact hw
def lisE (P : List Bal) : Int := if amtsB (sumsL P) = true then 0 else 2
def lisL (P : List Bal) : List Bal := if amtsB (sumsL P) = true then pick0 (sumsL P) else []
set_option maxRecDepth 20000 in
set_option maxHeartbeats 3200000 in
theorem clisted_any (sb m : Nat) (f : Int → Option Value) (P : List Bal) (w : World) (h : SI w sb m f P) (hm : m ≤ 1000000) (hp : P.length ≤ 1000) :
  Calls Try.prog 39 #[.map (some sb)] w fun e w' => ∃ v, e = .returned (.tuple #[v, .int .i64 (lisE P)]) ∧ SlB w' v (lisL P) ∧ Below w.heap.size w w' := by
 have hB := Below.refl w.heap.size w
 have hsb := h.map.lt
 have hE1 : amtsB (sumsL P) = false → lisE P = 2 ∧ lisL P = [] := fun h => by unfold lisE lisL; rw [h]; exact ⟨rfl, rfl⟩
 have hE0 : amtsB (sumsL P) = true → lisE P = 0 ∧ lisL P = pick0 (sumsL P) := fun h => by unfold lisE lisL; rw [h]; exact ⟨rfl, rfl⟩
 have hsl := sumsL_len (P := P)
 obtain ⟨hasc, hmem⟩ := keysL_is (l := P.map (·.acct))
 have hDK : ∀ D : List Int, Asc D → (∀ x, x ∈ D ↔ (f x).isSome = true) → D = keysL (P.map (·.acct)) := fun D h1 h2 => keysL_ext h1 fun x => by rw [h2 x, h.dom x]
 have hg : ∀ i, i < (sumsL P).length → (sumsL P).getD i bal0 = ⟨(keysL (P.map (·.acct))).getD i 0, ofS P ((keysL (P.map (·.acct))).getD i 0)⟩ := by
  intro i hi
  have hi' : i < (keysL (P.map (·.acct))).length := by unfold sumsL at hi; rwa [List.length_map] at hi
  unfold sumsL
  rw [List.getD_eq_getElem?_getD, List.getElem?_map, List.getD_eq_getElem?_getD, List.getElem?_eq_getElem hi']; rfl
 have hlen : (keysL (P.map (·.acct))).length = (sumsL P).length := by unfold sumsL; rw [List.length_map]
 have hT : ∀ i, i < (sumsL P).length → (keysL (P.map (·.acct))).getD i 0 = ((sumsL P).getD i bal0).acct := fun i hi => by rw [hg i hi]
 have hV : ∀ i, i < (sumsL P).length → ∃ g r, (f ((sumsL P).getD i bal0).acct).getD (.agg #[.int .i64 0, .int .i64 0]) = sumV g r ∧ SumZ g r ((sumsL P).getD i bal0).amt := fun i hi => by
  obtain ⟨g, r, e1, e2, -⟩ := h.val ((sumsL P).getD i bal0).acct
  refine ⟨g, r, e1, ?_⟩
  rw [hg i hi] at e2 ⊢
  exact e2
 have hWF : ∀ i, i < (sumsL P).length → (Lit.int .i64 ((sumsL P).getD i bal0).acct).wf = true := fun i hi => by
  refine h.wf _ ((hmem _).1 ?_)
  rw [← hT i hi]
  exact getD_mem_acc (by rw [hlen]; exact hi)
 have hmap := h.map
 generalize lisE P = re at *
 generalize lisL P = rl at *
 generalize keysL (P.map (·.acct)) = D0 at *
 generalize sumsL P = S at *
 obtain ⟨n, hn⟩ : ∃ n, S.length = n := ⟨_, rfl⟩
 rw [hn] at hsl hlen hT hV hWF
 have hn1 : n ≤ 1000 := by omega
 have HN := Lib.hid hn
 have HLEN := Lib.hid hlen
 have HT := Lib.hid hT
 have HV := Lib.hid hV
 have HWF := Lib.hid hWF
 have HDK := Lib.hid hDK
 have HE1 := Lib.hid hE1
 have HE0 := Lib.hid hE0
 have HMP := Lib.hid hmap
 obtain ⟨i0, hi, hz1, hz2, hz3⟩ := info_parts infoI_bal
 clear h hE1 hE0 hsl hasc hmem hDK hg hlen hT hV hWF hmap hn hp
 go_enter Try.func39, Try.ntmps39
 go_wp2_with (first
  | (go_at_call 54; refine (keyss_any _ _).mono ?_; rintro e w1 ⟨rfl, rfl⟩)
  | (go_at_call 34; refine (sorteds_any sb m f w HMP.out hm).mono ?_; rintro e w2 ⟨v, D, rfl, h1, h2, h3, hb⟩; have hDD := HDK.out D h2 h3; subst hDD; obtain ⟨AD, cD, hvD, hiD⟩ := h1; rw [HLEN.out] at hvD; subst hvD; have HID := Lib.hid hiD; have HBA := Lib.hid hb; clear hb h2 h3 hiD))
 obtain ⟨s1, hs1⟩ : ∃ s1, w2.heap.size = s1 := ⟨_, rfl⟩
 have hws : w.heap.size ≤ s1 := by rw [← hs1]; exact HBA.out.size
 have hB1 : Below s1 w2 w2 := Below.refl _ _
 have HM2 := Lib.hid (HMP.out.up HBA.out)
 have HS1 := Lib.hid hs1
 clear hs1
 have hO : Hid (OwnB 71 w2 s1 (.slice none 0 0) (pick0 (S.take 0))) := Lib.hid OwnB.nil
 go_loopg [4, 13] n (fun kx s4 s13 wr => ∃ k : Nat, s13 = .int .i64 k ∧ k ≤ n ∧ n - k ≤ kx ∧ Hid (amtsB (S.take k) = true) ∧ Hid (OwnB 71 wr s1 s4 (pick0 (S.take k))) ∧ Below s1 w2 wr)
 case atStart => exact ⟨0, rfl, by omega, by omega, Lib.hid rfl, hO, hB1⟩
 case round =>
  clear hB1 hO hB
  obtain ⟨k, rfl, hk, hkx, HA, hO, hB⟩ := hrel
  have hsz : s1 ≤ wr.heap.size := by have := hB.size; have := HS1.out; omega
  by_cases hlt : k < n
  ·have hltz : (k : Int) < (n : Int) := by omega
   obtain ⟨bD, offD, rfl, hbD, hcD⟩ := HID.out (by rw [HLEN.out]; omega)
   have hcell := (hB.cell (p := ⟨bD, offD + k, none⟩) (by rw [← HS1.out]; exact hbD)).trans (hcD k (by rw [HLEN.out]; exact hlt))
   rw [HT.out k hlt] at hcell
   obtain ⟨g, r, hv, hz⟩ := HV.out k hlt
   have hwf := HWF.out k hlt
   have htk := pick0_succ (l := S) (k := k) (by rw [HN.out]; exact hlt)
   have hno := fun h => all_false_getD (d := bal0) (p := fun x : Bal => amtB x.amt) (L := S) (k := k) (by rw [HN.out]; exact hlt) h
   have h9 := take_all_getD (d := bal0) (p := fun x : Bal => amtB x.amt) S k (by rw [HN.out]; exact hlt)
   have hln : Hid ((pick0 (S.take k)).length ≤ 100000000) := Lib.hid (by have := pick0_len (l := S.take k); rw [List.length_take] at this; omega)
   generalize S.getD k bal0 = x at *
   obtain ⟨t, z⟩ := x
   dsimp only at hcell hv hz hwf htk hno h9
   have ha := fun w => camount_any g r z w hz
   have HVV := Lib.hid hv
   have HWX := Lib.hid hwf
   have HNo := Lib.hid hno
   have H9 := Lib.hid h9
   have HMR := Lib.hid (HM2.out.up (by rw [HS1.out]; exact hB))
   clear hcD hv hz hwf hno h9
   cases hq : amtB z
   ·rw [hq] at ha
    have E := Lib.hid (HE1.out (HNo.out hq)).1
    have R := Lib.hid (HE1.out (HNo.out hq)).2
    have HAm := Lib.hid ha
    clear ha hq htk
    go_wp2_with (first
     | (at_lookup; refine wpList_mapv_look rfl _ _ _ 73 rfl Try.underlying69 sum_zero sb m f rfl HMR.out t rfl HWX.out ?_; rw [HVV.out])
     | (go_at_call 55; (with_reducible refine (HAm.out _).mono ?_); rintro e w3 ⟨rfl, hb⟩; replace hB := hB.trans (hb.mono hsz); clear hb))
    go_ret2
    exact ⟨_, by rw [E.out]; rfl, by rw [R.out]; exact SlB.nil, HBA.out.trans (hB.mono hws)⟩
   ·rw [hq] at ha
    have HAm := Lib.hid ha
    have HA2 : Hid (amtsB (S.take (k + 1)) = true) := Lib.hid (by show (S.take (k + 1)).all _ = true; rw [H9.out]; show (amtsB (S.take k) && amtB z) = true; rw [HA.out, hq]; rfl)
    clear ha hq
    by_cases h0 : z = 0
    ·rw [if_pos h0] at htk
     have e0 : (z != 0) = false := by simp [h0]
     have HTK := Lib.hid htk
     clear h0 htk
     go_wp2_with (first
      | (at_lookup; refine wpList_mapv_look rfl _ _ _ 73 rfl Try.underlying69 sum_zero sb m f rfl HMR.out t rfl HWX.out ?_; rw [HVV.out])
      | (go_at_call 55; (with_reducible refine (HAm.out _).mono ?_); rintro e w3 ⟨rfl, hb⟩; have hO2 : Hid (OwnB 71 w3 s1 u4 (pick0 (S.take (k + 1)))) := Lib.hid (by (rw [HTK.out]; exact hO.out.up hb)); replace hB := hB.trans (hb.mono hsz); clear hb))
     go_roundg (n - (k + 1))
     case measure => omega
     case rel => exact ⟨k + 1, by go_num, by omega, by omega, HA2, hO2, hB⟩
    ·rw [if_neg h0] at htk
     have e0 : (z != 0) = true := by simp [h0]
     have HTK := Lib.hid htk
     clear h0 htk
     go_wp2_with (first
      | (at_lookup; refine wpList_mapv_look rfl _ _ _ 73 rfl Try.underlying69 sum_zero sb m f rfl HMR.out t rfl HWX.out ?_; rw [HVV.out])
      | (go_at_call 55; (with_reducible refine (HAm.out _).mono ?_); rintro e w3 ⟨rfl, hb⟩; have hO2 : Hid (OwnB 71 w3 s1 u4 (pick0 (S.take k))) := Lib.hid (hO.out.up hb); have hsz3 := hb.size; replace hsz3 := Nat.le_trans hsz hsz3; replace hB := hB.trans (hb.mono hsz); clear hb)
      | (at_builtin; refine wpList_append_bg _ rfl (.tmp 28) (.tmp 32) 36 rfl s1 71 i0 16 Try.underlying36 hi hz1 hz2 hz3 (by omega) u4 _ (by rfl) hO2.out t z _ 1 (by first | rfl | simp) rfl hln.out hsz3 ?_; intro v2 w4 ho2 hb2; replace ho2 := ho2.out; rw [← HTK.out] at ho2; replace ho2 := Lib.hid ho2; replace hB := hB.trans hb2; clear hb2))
     go_roundg (n - (k + 1))
     case measure => omega
     case rel => exact ⟨k + 1, by go_num, by omega, by omega, HA2, ho2, hB⟩
  ·obtain rfl : k = n := by omega
   have hltz : ¬ (k : Int) < (k : Int) := by omega
   have hA := HA.out
   rw [List.take_of_length_le (by rw [HN.out]; omega)] at hA
   obtain ⟨hE, hR⟩ := HE0.out hA
   have ho := hO.out.slb
   rw [List.take_of_length_le (by rw [HN.out]; omega), ← hR] at ho
   have HO := Lib.hid ho
   have E := Lib.hid hE
   clear ho hA hE hR
   go_wp2_with fail
   go_ret2
   exact ⟨_, by rw [E.out]; rfl, HO.out, HBA.out.trans (hB.mono hws)⟩
theorem tosL_take {L : List Acc} {K : List Lnk} {day : Int} {b : List Bal} {k : Nat} (hk : k < b.length) : tosL L K day (b.take (k + 1)) = tosL L K day (b.take k) ++ [⟨atV L K (b.getD k bal0).acct day, (b.getD k bal0).amt⟩] := by
 unfold tosL
 rw [take_succ_getD (d := bal0) hk, List.map_append]; rfl
theorem atV_wf {L : List Acc} {K : List Lnk} {c day : Int} (hw : ∀ l ∈ K, WfL l) (h : atE L K c day = 0) : (Lit.int .i64 (atV L K c day)).wf = true := by
 obtain ⟨a, l, -, hl, hv⟩ := atE_zero h
 rw [hv]
 exact (hw l (atO_mem hl).1).tgt
set_option maxRecDepth 20000 in
set_option maxHeartbeats 3200000 in
theorem cmove9_any (nm cur : ByteArray) (A : Option Addr) (cp : Nat) (L : List Acc) (B : Option Addr) (d : Nat) (K : List Lnk) (jt : Bool) (C : Option Addr) (cb : Nat) (b : List Bal) (day : Int) (w : World) (hz : AccAt w A L) (hy : LnkAt w B K) (hx : BalAt w C b)
  (hl : L.length ≤ 1000) (hm : K.length ≤ 1000) (hbl : b.length ≤ 1000) (hwa : WfC L) (hwl : ∀ l ∈ K, WfL l) (hwb : ∀ x ∈ b, (Lit.int .i64 x.acct).wf = true) :
  Calls Try.prog 18 #[entV nm cur A L.length cp B K.length d jt, .slice C b.length cb, .int .i64 day] w fun e w' => ∃ v, e = .returned (.tuple #[v, .int .i64 (moveE L K day b)]) ∧ SlB w' v (moveL L K day b) ∧ Below w.heap.size w w' := by
 have hn := eb_new w 25 nm cur A L.length cp B K.length d jt
 have hB := below_alloc_new (w := w) (.cells #[.string nm, .string cur, .slice A L.length cp, .slice B K.length d, .bool jt] 25)
 have HEB := Lib.hid hn
 have HZ := Lib.hid (hz.up hB)
 have HY := Lib.hid (hy.up hB)
 have HX := Lib.hid (hx.up hB)
 have h1 := fun w h => carasc9_any C cb b w h (by omega)
 have h2 := fun w h h' => cparts_any nm cur A cp L B d K jt w h h' hl hm hwa hwl
 have h3 := fun (c : Int) (A1 : Option Addr) (cp1 : Nat) (B1 : Option Addr) (d1 : Nat) w h h' => cat9_any ⟨#[]⟩ ⟨#[]⟩ A1 cp1 (accC L c) B1 d1 (lnkC K c) false c day w h h' (Nat.le_trans accC_len hl) (Nat.le_trans lnkC_len hm)
 have h3' : ∀ (c : Int) (A1 : Option Addr) (cp1 : Nat) (B1 : Option Addr) (d1 : Nat) (w : World), AccAt w A1 (accC L c) → LnkAt w B1 (lnkC K c) →
   Calls Try.prog 13 #[entV ⟨#[]⟩ ⟨#[]⟩ A1 (accC L c).length cp1 B1 (lnkC K c).length d1 false, .int .i64 c, .int .i64 day] w fun e w' => e = .returned (.tuple #[.int .i64 (atV L K c day), .int .i64 (atE L K c day)]) ∧ Below w.heap.size w w' := fun c A1 cp1 B1 d1 w h h' => by
  have h9 := h3 c A1 cp1 B1 d1 w h h'
  have e1 := (at_part (L := L) (K := K) (c := c) (day := day)).1
  have e2 := (at_part (L := L) (K := K) (c := c) (day := day)).2
  unfold accC lnkC at h9 ⊢
  rw [e1, e2] at h9
  exact h9
 have hWT := fun c h => atV_wf (L := L) (K := K) (c := c) (day := day) hwl h
 have hN1 : ascB b = false → moveE L K day b = 1 ∧ moveL L K day b = [] := fun h => ⟨moveE_asc h, moveL_bad (by rw [moveE_asc h]; decide)⟩
 have hN2 : ascB b = true → ∀ k, k < b.length → (∀ i, i < k → atE L K (b.getD i bal0).acct day = 0) → atE L K (b.getD k bal0).acct day ≠ 0 → moveE L K day b = atE L K (b.getD k bal0).acct day ∧ moveL L K day b = [] := fun h k hk h1 h2 => by
  have h4 := feE_take hk h1 h2
  have h5 := moveE_at (L := L) (K := K) (day := day) h (by rw [h4]; exact h2)
  rw [h4] at h5
  exact ⟨h5, moveL_bad (by rw [h5]; exact h2)⟩
 have hN3 : ascB b = true → (∀ i, i < b.length → atE L K (b.getD i bal0).acct day = 0) → moveE L K day b = lisE (tosL L K day b) ∧ moveL L K day b = lisL (tosL L K day b) := fun h h1 => by
  have h4 := feE_zero h1
  unfold lisE lisL
  cases hq : amtsB (sumsL (tosL L K day b))
  ·have h5 := moveE_no (L := L) (K := K) (day := day) h h4 hq
   exact ⟨h5, moveL_bad (by rw [h5]; decide)⟩
  ·have h5 := moveE_ok (L := L) (K := K) (day := day) h h4 hq
   exact ⟨h5, moveL_ok h5⟩
 have hamt : ascB b = true → ∀ k, k < b.length → -1000000000000 ≤ (b.getD k bal0).amt ∧ (b.getD k bal0).amt ≤ 1000000000000 := fun h k hk => by
  have h4 := allTo_is.1 h k hk
  unfold ascP at h4
  simp only [Bool.and_eq_true] at h4
  exact amtB_is.1 h4.2
 have hTK := fun k hk => tosL_take (L := L) (K := K) (day := day) (b := b) (k := k) hk
 have hTL : ∀ k, (tosL L K day (b.take k)).length ≤ 1000 := fun k => by unfold tosL; rw [List.length_map, List.length_take]; omega
 have hTE : ∀ k, b.length ≤ k → tosL L K day (b.take k) = tosL L K day b := fun k hk => by rw [List.take_of_length_le hk]
 have hT0 : tosL L K day (b.take 0) = [] := rfl
 have hwx : ∀ k, k < b.length → (Lit.int .i64 (b.getD k bal0).acct).wf = true := fun k hk => hwb _ (getD_mem_acc hk)
 generalize moveE L K day b = re at *
 generalize moveL L K day b = rl at *
 generalize tosL L K day = T at *
 obtain ⟨V, hV⟩ : ∃ V : Int → Int, (fun c => atV L K c day) = V := ⟨_, rfl⟩
 obtain ⟨E, hE⟩ : ∃ E : Int → Int, (fun c => atE L K c day) = E := ⟨_, rfl⟩
 have hVc : ∀ c, atV L K c day = V c := fun c => by rw [← hV]
 have hEc : ∀ c, atE L K c day = E c := fun c => by rw [← hE]
 simp only [hVc, hEc] at h3' hWT hN2 hN3 hTK
 obtain ⟨m, hm2⟩ : ∃ m, b.length = m := ⟨_, rfl⟩
 obtain ⟨n, hn2⟩ : ∃ n, L.length = n := ⟨_, rfl⟩
 obtain ⟨p, hp2⟩ : ∃ p, K.length = p := ⟨_, rfl⟩
 rw [hm2] at h1 hN2 hN3 hamt hTK hTE hwx hbl
 rw [hn2, hp2] at h2 hB HEB HZ HY HX
 rw [hn2, hp2, hm2]
 obtain ⟨s0, hs0⟩ : ∃ s0, w.heap.size = s0 := ⟨_, rfl⟩
 have HS0 := Lib.hid hs0
 have HM := Lib.hid hm2
 have H1 := Lib.hid h1
 have H2 := Lib.hid h2
 have H3 := Lib.hid h3'
 have HWT := Lib.hid hWT
 have HN1 := Lib.hid hN1
 have HN2 := Lib.hid hN2
 have HN3 := Lib.hid hN3
 have HAMT := Lib.hid hamt
 have HTK := Lib.hid hTK
 have HTL := Lib.hid hTL
 have HTE := Lib.hid hTE
 have HT0 := Lib.hid hT0
 have HWX := Lib.hid hwx
 have hmm := @run_makeMap Try.prog
 clear hn hz hy hx h1 h2 h3 h3' hWT hN1 hN2 hN3 hamt hTK hTL hTE hT0 hwx hV hE hVc hEc hm2 hn2 hp2 hs0 hwa hwl hwb hl hm
 cases hq : ascB b
 ·rw [hq] at H1
  have E1 := Lib.hid (HN1.out hq).1
  have R1 := Lib.hid (HN1.out hq).2
  clear hq HN1 HN2 HN3 HAMT
  go_enter Try.func18, Try.ntmps18
  go_wp2_with (go_at_call 36; (with_reducible refine (H1.out _ HX.out).mono ?_); rintro e w1 ⟨rfl, hb⟩; replace hB := below_more hB hb; clear hb)
  go_ret2
  exact ⟨_, by rw [E1.out]; rfl, by rw [R1.out]; exact SlB.nil, hB⟩
 rw [hq] at H1
 have HN2' := Lib.hid (HN2.out hq)
 have HN3' := Lib.hid (HN3.out hq)
 have HAMT' := Lib.hid (HAMT.out hq)
 clear hq HN1 HN2 HN3 HAMT
 obtain ⟨c0, c1, c2, c3, c4, lt⟩ := HEB.out
 go_enter Try.func18, Try.ntmps18
 go_wp2_with (first
  | (go_at_call 36; (with_reducible refine (H1.out _ HX.out).mono ?_); rintro e w1 ⟨rfl, hb⟩; replace HEB := Lib.hid (HEB.out.up hb); replace HZ := Lib.hid (HZ.out.up hb); replace HY := Lib.hid (HY.out.up hb); replace HX := Lib.hid (HX.out.up hb); replace hB := below_more hB hb; clear hb c0 c1 c2 c3 c4 lt; obtain ⟨c0, c1, c2, c3, c4, lt⟩ := HEB.out)
  | (go_at_call 37; (with_reducible refine (H2.out _ HZ.out HY.out).mono ?_); rintro e w3 ⟨mb, base, np, fp, GA, GB, rfl, hpi, hnp, hb⟩; replace HX := Lib.hid (HX.out.up hb); replace hB := below_more hB hb; have HPI := Lib.hid hpi; clear hb hpi c0 c1 c2 c3 c4 lt))
 obtain ⟨s3, hs3⟩ : ∃ s3, w3.heap.size = s3 := ⟨_, rfl⟩
 have hSI := SI.start (MapV.made w3)
 have hB3 : Below s3 w3 (w3.alloc (.map #[] 0)) := by rw [← hs3]; exact below_alloc_new _
 have hws : w.heap.size ≤ s3 := by rw [← hs3]; exact hB.size
 rw [hs3] at hSI ⊢
 rw [← HT0.out] at hSI
 have HSI := Lib.hid hSI
 have HS3 := Lib.hid hs3
 have HBA := Lib.hid hB
 have HXA := Lib.hid HX.out
 clear hSI hs3 hB HX HEB HZ HY H1 H2
 go_loopg [22] m (fun kx s22 wr => ∃ (k n2 : Nat) (f2 : Int → Option Value), s22 = .int .i64 k ∧ k ≤ m ∧ m - k ≤ kx ∧ n2 ≤ k ∧ Hid (∀ i, i < k → E (b.getD i bal0).acct = 0) ∧ Hid (SI wr s3 n2 f2 (T (b.take k))) ∧ Below s3 w3 wr)
 case atStart => exact ⟨0, 0, _, rfl, by omega, by omega, by omega, Lib.hid (fun i h => absurd h (by omega)), HSI, hB3⟩
 case round =>
  clear HSI hB3
  obtain ⟨k, n2, f2, rfl, hk, hkx, hn2, HALL, HSI, hB⟩ := hrel
  have hsz : s3 ≤ wr.heap.size := by have := hB.size; have := HS3.out; omega
  by_cases hlt : k < m
  ·have hltz : (k : Int) < (m : Int) := by omega
   obtain ⟨bb, off, rfl, hbw, hcs⟩ := HXA.out (by rw [HM.out]; omega)
   obtain ⟨p0, p1⟩ := (hcs k (by rw [HM.out]; exact hlt)).up hB (by rw [← HS3.out]; exact hbw)
   have hn2' := HN2'.out k hlt HALL.out
   have htk := HTK.out k hlt
   have hamt := HAMT'.out k hlt
   have hwx := HWX.out k hlt
   obtain ⟨x, hxe⟩ : ∃ x, b.getD k bal0 = x := ⟨_, rfl⟩
   rw [hxe] at p0 p1 hn2' htk hamt hwx
   have hW := below_alloc_new (w := wr) (.cells #[.int .i64 x.acct, .int .i64 x.amt] 71)
   have hB1 : Below s3 w3 (wr.alloc (.cells #[.int .i64 x.acct, .int .i64 x.amt] 71)) := hB.alloc hsz _
   have hPI1 := HPI.out.up (by rw [HS3.out]; exact hB1)
   have hAB := bb_new wr 71 x
   have hSI1 := HSI.out.up hW
   have hval := hPI1.val x.acct
   obtain ⟨A1, cp1, eA, hat1⟩ := (hPI1.fam.a x.acct).reads
   obtain ⟨B1, d1, eB, hlk1⟩ := (hPI1.fam.b x.acct).reads
   rw [eA, eB] at hval
   have h3 := H3.out x.acct A1 cp1 B1 d1 (wr.alloc (.cells #[.int .i64 x.acct, .int .i64 x.amt] 71)) hat1 hlk1
   obtain ⟨n1, hn1⟩ : ∃ n1, (accC L x.acct).length = n1 := ⟨_, rfl⟩
   obtain ⟨m1, hm1⟩ : ∃ m1, (lnkC K x.acct).length = m1 := ⟨_, rfl⟩
   rw [hn1, hm1] at hval h3
   have hwt := HWT.out x.acct
   obtain ⟨te, hte⟩ : ∃ te, V x.acct = te := ⟨_, rfl⟩
   obtain ⟨ee, hee⟩ : ∃ ee, E x.acct = ee := ⟨_, rfl⟩
   rw [hte, hee] at h3 hwt
   rw [hte] at htk
   rw [hee] at hn2'
   have HPM := Lib.hid hPI1.map
   have HVAL := Lib.hid hval
   have HAB := Lib.hid hAB
   have HS1 := Lib.hid hSI1
   have HB1 := Lib.hid hB1
   have H3x := Lib.hid h3
   have HWK := Lib.hid hwx
   have HEE := Lib.hid hee
   have HXE := Lib.hid hxe
   have HSW : Hid (s3 ≤ (wr.alloc (.cells #[.int .i64 x.acct, .int .i64 x.amt] 71)).heap.size) := Lib.hid (by simp; omega)
   obtain ⟨⟨r0, r1⟩, rlt⟩ := HAB.out
   simp only [Nat.zero_add] at r1
   clear hcs hW hB1 hPI1 hAB hSI1 hval eA eB hat1 hlk1 h3 hn1 hm1 hwx hee hte hxe
   by_cases he : ee = 0
   ·have e0 : (ee != 0) = false := by simp [he]
    have HWT1 := Lib.hid (hwt he)
    have HAL2 : Hid (∀ i, i < k + 1 → E (b.getD i bal0).acct = 0) := Lib.hid (fun i hi => by
     rcases Nat.lt_or_ge i k with h9 | h9
     ·exact HALL.out i h9
     ·obtain rfl : i = k := by omega
      rw [HXE.out, HEE.out]; exact he)
    have hPL := HTL.out k
    obtain ⟨g, r, hv, hz, hg⟩ := HS1.out.val te
    have hcp := fun w => cplus_any g r x.amt w (by omega) ⟨hz.lo, hz.hi⟩ hamt
    have HV2 := Lib.hid hv
    have HCP := Lib.hid hcp
    have HT2 := Lib.hid htk
    have HSTEP := Lib.hid (fun w4 hm => HS1.out.step (w4 := w4) hv hz hg hamt HWT1.out hm)
    have hn9 : n2 ≤ 1000000 := by omega
    clear hv hcp hz hg hwt hn2' he htk hPL
    go_wp2_with (first
     | (at_lookup; refine wpList_mapv_look rfl _ _ _ 25 rfl Try.underlying67 ent_zero mb np fp rfl HPM.out x.acct rfl HWK.out ?_; rw [HVAL.out])
     | (at_lookup; refine wpList_mapv_look rfl _ _ _ 73 rfl Try.underlying69 sum_zero s3 n2 f2 rfl HSA.out.map te rfl HWT1.out ?_; rw [HV2.out])
     | (go_at_call 13; (with_reducible refine H3x.out.mono ?_); rintro e w5 ⟨rfl, hb⟩; have HSA := Lib.hid (HS1.out.up hb); obtain ⟨⟨z0, z1⟩, zlt⟩ := HAB.out.up hb; simp only [Nat.zero_add] at z1; have HBT := Lib.hid (HB1.out.trans (hb.mono HSW.out)); have HSZ := Lib.hid (Nat.le_trans HSW.out hb.size); clear hb r0 r1 rlt)
     | (go_at_call 38; (with_reducible refine (HCP.out _).mono ?_); rintro e w6 ⟨rfl, hb⟩; have HSB := Lib.hid (HSA.out.up hb); have HBU := Lib.hid (HBT.out.trans (hb.mono HSZ.out)); have HSY := Lib.hid (Nat.le_trans HSZ.out hb.size); clear hb)
     | (at_mapUpdate; refine wpList_mapv_put rfl _ _ _ _ 73 rfl Try.underlying69 s3 n2 f2 rfl HSB.out.map te rfl (sumV (plusG g r x.amt) (plusR r x.amt)) rfl HWT1.out hn9 ?_; intro w7 hm7 hg7; have hB7 := grown_below HBU.out hg7.out (Nat.le_refl _) HSY.out; clear hg7))
    have HSI7 := Lib.hid (HSTEP.out _ hm7.out)
    rw [← HT2.out] at HSI7
    go_roundg (m - (k + 1))
    case measure => omega
    case rel => exact ⟨k + 1, n2 + 1, _, by go_num, by omega, by omega, by omega, HAL2, HSI7, hB7⟩
   ·have e0 : (ee != 0) = true := by simp [he]
    obtain ⟨h8, h9⟩ := hn2' he
    have E1 := Lib.hid h8
    have R1 := Lib.hid h9
    clear hn2' he htk hwt h8 h9
    go_wp2_with (first
     | (at_lookup; refine wpList_mapv_look rfl _ _ _ 25 rfl Try.underlying67 ent_zero mb np fp rfl HPM.out x.acct rfl HWK.out ?_; rw [HVAL.out])
     | (go_at_call 13; (with_reducible refine H3x.out.mono ?_); rintro e w5 ⟨rfl, hb⟩; have HBT := Lib.hid (HB1.out.trans (hb.mono HSW.out)); clear hb))
    go_ret2
    exact ⟨_, by rw [E1.out]; rfl, by rw [R1.out]; exact SlB.nil, HBA.out.trans (HBT.out.mono hws)⟩
  ·obtain rfl : k = m := by omega
   have hltz : ¬ (k : Int) < (k : Int) := by omega
   obtain ⟨h8, h9⟩ := HN3'.out HALL.out
   have hS := HSI.out
   rw [HTE.out k (Nat.le_refl _)] at hS
   have hPL := HTL.out k
   rw [HTE.out k (Nat.le_refl _)] at hPL
   have hls := clisted_any s3 n2 f2 (T b) wr hS (by omega) hPL
   have HLS := Lib.hid hls
   have E1 := Lib.hid h8
   have R1 := Lib.hid h9
   clear h8 h9 hS hPL hls
   go_wp2_with (go_at_call 39; (with_reducible refine HLS.out.mono ?_); rintro e w8 ⟨v, rfl, hs8, hb⟩; replace hB := hB.trans (hb.mono hsz); have HS8 := Lib.hid hs8; clear hb hs8)
   go_ret2
   exact ⟨_, by rw [E1.out]; rfl, by rw [R1.out]; exact HS8.out, HBA.out.trans (hB.mono hws)⟩
open Go.RowKit
theorem sumsL_amt {P : List Bal} (h : ∀ y ∈ P, amtB y.amt = true) (hp : P.length ≤ 1000) : ∀ y ∈ sumsL P, -1000000000000000 ≤ y.amt ∧ y.amt ≤ 1000000000000000 := by
 intro y hy
 unfold sumsL at hy
 obtain ⟨t, -, rfl⟩ := List.mem_map.1 hy
 have h1 := ofS_bound (c := t) (l := P) h
 have h2 := room_1000 (b := P) hp
 dsimp only
 omega
def rmF (nm cur : ByteArray) (A : Option Addr) (n cp : Nat) (B : Option Addr) (p d : Nat) (jt : Bool) (_s0 bb off m k : Nat) (cb : Nat) (x : Bal) (day te ee : Int) : List (Nat × AS.Fact) := [(24, AS.Fact.is (.agg #[.string nm, .string cur, .slice A n cp, .slice B p d, .bool jt])), (25, AS.Fact.is (.slice (some ⟨bb, off, none⟩) (m : Nat) cb)), (26, AS.Fact.is (.int .i64 (k : Int))), (27, AS.Fact.is (.pointer (some ⟨bb, off + k * 2, none⟩))), (28, AS.Fact.is (.pointer (some ⟨bb, off + k * 2, none⟩))), (29, AS.Fact.is (.int .i64 x.acct)), (30, AS.Fact.is (.int .i64 day)), (31, AS.Fact.is (.tuple #[.int .i64 te, .int .i64 ee])), (23, AS.Fact.is (.tuple #[.int .i64 te, .int .i64 ee])), (32, AS.Fact.is (.int .i64 te)), (33, AS.Fact.is (.int .i64 ee)), (10, AS.Fact.is (.int .i64 te)), (11, AS.Fact.is (.int .i64 ee))]
set_option maxRecDepth 20000 in
set_option maxHeartbeats 6400000 in
theorem rmove9_any (nm cur : ByteArray) (A : Option Addr) (cp : Nat) (L : List Acc) (B : Option Addr) (d : Nat) (K : List Lnk) (jt : Bool) (C : Option Addr) (cb : Nat) (b : List Bal) (day : Int) (w : World) (hz : AccAt w A L) (hy : LnkAt w B K) (hx : BalAt w C b)
  (hl : L.length ≤ 1000) (hm : K.length ≤ 1000) (hbl : b.length ≤ 1000) :
  Calls Try.prog 19 #[entV nm cur A L.length cp B K.length d jt, .slice C b.length cb, .int .i64 day] w fun e w' => ∃ v, e = .returned (.tuple #[v, .int .i64 (moveE L K day b)]) ∧ SlB w' v (moveL L K day b) ∧ Below w.heap.size w w' := by
 have hn := eb_new w 25 nm cur A L.length cp B K.length d jt
 have hB := below_alloc_new (w := w) (.cells #[.string nm, .string cur, .slice A L.length cp, .slice B K.length d, .bool jt] 25)
 have HEB := Lib.hid hn
 have HZ := Lib.hid (hz.up hB)
 have HY := Lib.hid (hy.up hB)
 have HX := Lib.hid (hx.up hB)
 have h1 := fun w h => rasc_any C cb b w h (by omega)
 have h3' := fun (c : Int) w h h' => rat9_any nm cur A cp L B d K jt c day w h h' hl hm
 have hN1 : ascB b = false → moveE L K day b = 1 ∧ moveL L K day b = [] := fun h => ⟨moveE_asc h, moveL_bad (by rw [moveE_asc h]; decide)⟩
 have hN2 : ascB b = true → ∀ k, k < b.length → (∀ i, i < k → atE L K (b.getD i bal0).acct day = 0) → atE L K (b.getD k bal0).acct day ≠ 0 → moveE L K day b = atE L K (b.getD k bal0).acct day ∧ moveL L K day b = [] := fun h k hk h1 h2 => by
  have h4 := feE_take hk h1 h2
  have h5 := moveE_at (L := L) (K := K) (day := day) h (by rw [h4]; exact h2)
  rw [h4] at h5
  exact ⟨h5, moveL_bad (by rw [h5]; exact h2)⟩
 have hN3 : ascB b = true → (∀ i, i < b.length → atE L K (b.getD i bal0).acct day = 0) → (amtsB (sumsL (tosL L K day b)) = false → moveE L K day b = 2 ∧ moveL L K day b = []) ∧ (amtsB (sumsL (tosL L K day b)) = true → moveE L K day b = 0 ∧ moveL L K day b = pick0 (sumsL (tosL L K day b))) := fun h h1 => by
  have h4 := feE_zero h1
  refine ⟨fun hq => ?_, fun hq => ?_⟩
  ·have h5 := moveE_no (L := L) (K := K) (day := day) h h4 hq
   exact ⟨h5, moveL_bad (by rw [h5]; decide)⟩
  ·have h5 := moveE_ok (L := L) (K := K) (day := day) h h4 hq
   exact ⟨h5, moveL_ok h5⟩
 have hamt : ascB b = true → ∀ x ∈ b, amtB x.amt = true := fun h x hx => by
  obtain ⟨k, hk, rfl⟩ := mem_getD_acc (d := bal0) hx
  have h4 := allTo_is.1 h k hk
  unfold ascP at h4
  simp only [Bool.and_eq_true] at h4
  exact h4.2
 have hTK := fun k hk => tosL_take (L := L) (K := K) (day := day) (b := b) (k := k) hk
 have hTL : ∀ k, (tosL L K day (b.take k)).length ≤ 1000 := fun k => by unfold tosL; rw [List.length_map, List.length_take]; omega
 have hTE : ∀ k, b.length ≤ k → tosL L K day (b.take k) = tosL L K day b := fun k hk => by rw [List.take_of_length_le hk]
 have hT0 : sumsL (tosL L K day (b.take 0)) = [] := rfl
 have hTM : ascB b = true → ∀ k, ∀ y ∈ sumsL (tosL L K day (b.take k)), -1000000000000000 ≤ y.amt ∧ y.amt ≤ 1000000000000000 := fun h k => sumsL_amt (fun y hy => by
  unfold tosL at hy
  obtain ⟨x, hx, rfl⟩ := List.mem_map.1 hy
  exact hamt h x (List.mem_of_mem_take hx)) (hTL k)
 have hxa : ascB b = true → ∀ k, k < b.length → -1000000000000 ≤ (b.getD k bal0).amt ∧ (b.getD k bal0).amt ≤ 1000000000000 := fun h k hk => amtB_is.1 (hamt h _ (getD_mem_acc hk))
 generalize moveE L K day b = re at *
 generalize moveL L K day b = rl at *
 generalize tosL L K day = T at *
 obtain ⟨V, hV⟩ : ∃ V : Int → Int, (fun c => atV L K c day) = V := ⟨_, rfl⟩
 obtain ⟨E, hE⟩ : ∃ E : Int → Int, (fun c => atE L K c day) = E := ⟨_, rfl⟩
 have hVc : ∀ c, atV L K c day = V c := fun c => by rw [← hV]
 have hEc : ∀ c, atE L K c day = E c := fun c => by rw [← hE]
 simp only [hVc, hEc] at h3' hN2 hN3 hTK
 obtain ⟨m, hm2⟩ : ∃ m, b.length = m := ⟨_, rfl⟩
 obtain ⟨n, hn2⟩ : ∃ n, L.length = n := ⟨_, rfl⟩
 obtain ⟨p, hp2⟩ : ∃ p, K.length = p := ⟨_, rfl⟩
 rw [hm2] at h1 hN2 hN3 hTK hTE hxa hbl
 rw [hn2, hp2] at h3' hB HEB HZ HY HX
 rw [hn2, hp2, hm2]
 obtain ⟨s0, hs0⟩ : ∃ s0, w.heap.size = s0 := ⟨_, rfl⟩
 have HS0 := Lib.hid hs0
 have HM := Lib.hid hm2
 have H1 := Lib.hid h1
 have H3 := Lib.hid h3'
 have HN1 := Lib.hid hN1
 have HN2 := Lib.hid hN2
 have HN3 := Lib.hid hN3
 have HTK := Lib.hid hTK
 have HTL := Lib.hid hTL
 have HTE := Lib.hid hTE
 have HT0 := Lib.hid hT0
 have HTM := Lib.hid hTM
 have HXA := Lib.hid hxa
 clear hn hz hy hx h1 h3' hN1 hN2 hN3 hamt hTK hTL hTE hT0 hTM hxa hV hE hVc hEc hm2 hn2 hp2 hs0 hl hm
 cases hq : ascB b
 ·rw [hq] at H1
  have E1 := Lib.hid (HN1.out hq).1
  have R1 := Lib.hid (HN1.out hq).2
  clear hq HN1 HN2 HN3 HTM HXA
  go_enter Try.func19, Try.ntmps19
  go_wp2_with (go_at_call 40; (with_reducible refine (H1.out _ HX.out).mono ?_); rintro e w1 ⟨rfl, hb⟩; replace hB := below_more hB hb; clear hb)
  go_ret2
  exact ⟨_, by rw [E1.out]; rfl, by rw [R1.out]; exact SlB.nil, hB⟩
 rw [hq] at H1
 have HN2' := Lib.hid (HN2.out hq)
 have HN3' := Lib.hid (HN3.out hq)
 have HTM' := Lib.hid (HTM.out hq)
 have HXA' := Lib.hid (HXA.out hq)
 obtain ⟨i0, hi, hz1, hz2, hz3⟩ := info_parts infoI_bal
 clear hq HN1 HN2 HN3 HTM HXA
 go_enter Try.func19, Try.ntmps19
 go_wp2_with (go_at_call 40; (with_reducible refine (H1.out _ HX.out).mono ?_); rintro e w1 ⟨rfl, hb⟩; replace HEB := Lib.hid (HEB.out.up hb); replace HZ := Lib.hid (HZ.out.up hb); replace HY := Lib.hid (HY.out.up hb); replace HX := Lib.hid (HX.out.up hb); replace hB := below_more hB hb; clear hb)
 obtain ⟨s1, hs1⟩ : ∃ s1, w1.heap.size = s1 := ⟨_, rfl⟩
 have hws : w.heap.size ≤ s1 := by rw [← hs1]; exact hB.size
 have HS1 := Lib.hid hs1
 have HBA := Lib.hid hB
 have hO : Hid (OwnB 71 w1 s1 (.slice none 0 0) (sumsL (T (b.take 0)))) := Lib.hid (by rw [HT0.out]; exact OwnB.nil)
 have hB1 : Below s1 w1 w1 := Below.refl _ _
 rw [HS0.out] at HEB ⊢
 have HEB1 := Lib.hid HEB.out
 have HZ1 := Lib.hid HZ.out
 have HY1 := Lib.hid HY.out
 have HX1 := Lib.hid HX.out
 clear hB hs1 H1 HEB HZ HY HX
 try clear HEB HZ HY HX
 go_loopg [8, 9] m (fun kx s8 s9 wr => ∃ k : Nat, s9 = .int .i64 k ∧ k ≤ m ∧ m - k ≤ kx ∧ Hid (OwnB 71 wr s1 s8 (sumsL (T (b.take k)))) ∧ Hid (∀ i, i < k → E (b.getD i bal0).acct = 0) ∧ Below s1 w1 wr)
 case atStart => exact ⟨0, rfl, by omega, by omega, hO, Lib.hid (fun i h => absurd h (by omega)), hB1⟩
 case round =>
  clear hO hB1
  obtain ⟨k, rfl, hk, hkx, HO, HALL, hB⟩ := hrel
  have hBs : Below w1.heap.size w1 wr := by rw [HS1.out]; exact hB
  have hsz : s1 ≤ wr.heap.size := by have := hB.size; have := HS1.out; omega
  by_cases hlt : k < m
  ·have hltz : (k : Int) < (m : Int) := by omega
   have HEB := Lib.hid (HEB1.out.up hBs)
   have HZ := Lib.hid (HZ1.out.up hBs)
   have HY := Lib.hid (HY1.out.up hBs)
   obtain ⟨bb, off, rfl, hbw, hcs⟩ := HX1.out (by rw [HM.out]; omega)
   obtain ⟨p0, p1⟩ := (hcs k (by rw [HM.out]; exact hlt)).up hBs hbw
   have hn2' := HN2'.out k hlt HALL.out
   have htk := HTK.out k hlt
   have hxa := HXA'.out k hlt
   have htm := HTM'.out k
   have htl := HTL.out k
   obtain ⟨x, hxe⟩ : ∃ x, b.getD k bal0 = x := ⟨_, rfl⟩
   rw [hxe] at p0 p1 hn2' htk hxa
   have h3 := H3.out x.acct wr HZ.out HY.out
   obtain ⟨te, hte⟩ : ∃ te, V x.acct = te := ⟨_, rfl⟩
   obtain ⟨ee, hee⟩ : ∃ ee, E x.acct = ee := ⟨_, rfl⟩
   rw [hte, hee] at h3
   rw [hte] at htk
   rw [hee] at hn2'
   have hR : ∀ j, j ≤ (sumsL (T (b.take k))).length → (∀ i, i < j → ((sumsL (T (b.take k))).getD i bal0).acct < te) → (j < (sumsL (T (b.take k))).length → te ≤ ((sumsL (T (b.take k))).getD j bal0).acct) →
     sumsL (T (b.take (k + 1))) = if j < (sumsL (T (b.take k))).length ∧ ((sumsL (T (b.take k))).getD j bal0).acct = te then (sumsL (T (b.take k))).set j ⟨te, ((sumsL (T (b.take k))).getD j bal0).amt + x.amt⟩ else (sumsL (T (b.take k))).take j ++ ⟨te, x.amt⟩ :: (sumsL (T (b.take k))).drop j := fun j h1 h2 h3 => by
    rw [htk]; exact sumsL_snoc (x := ⟨te, x.amt⟩) h1 h2 h3
   have hSl : (sumsL (T (b.take k))).length ≤ 1000 := Nat.le_trans sumsL_len htl
   obtain ⟨S, hS⟩ : ∃ S, sumsL (T (b.take k)) = S := ⟨_, rfl⟩
   obtain ⟨S2, hS2⟩ : ∃ S2, sumsL (T (b.take (k + 1))) = S2 := ⟨_, rfl⟩
   rw [hS] at hR hSl htm HO
   rw [hS2] at hR
   have hput := fun v w h h' => rput9_any s1 v S ⟨te, x.amt⟩ w h h' hSl (fun y hy => by have := htm y hy; dsimp only; omega) S2 hR
   have HPUT := Lib.hid hput
   have HS2 := Lib.hid hS2
   have H3x := Lib.hid (fun w h h' => H3.out x.acct w h h')
   rw [hte, hee] at H3x
   have HEE := Lib.hid hee
   have HXE := Lib.hid hxe
   have HB2 := Lib.hid ((hcs k (by rw [HM.out]; exact hlt)).up hBs hbw)
   rw [hxe] at HB2
   have hbW : bb < wr.heap.size := Nat.lt_of_lt_of_le hbw hBs.size
   clear hcs h3 hte hee hxe htk htm hxa htl hR hSl hput hS hS2
   go_wp2_with fail
   refine AS.region_facts (rmF nm cur A n cp B p d jt s0 bb off m k cb x day te ee) (HNo wr) [[], [], [], [25, 26], [27], [28], [], [24, 29, 30], [31], [23], [23], [32], [33]] [] [[]] [0, 0, 0, 0, 0, 0, 0, 0, 0, 0, 0, 0, 0] [] (fun u => by simp only [rmF, AS.temps, List.map_cons, List.map_nil, fillL, List.setIfInBounds_toArray, List.set_cons_zero, List.set_cons_succ]; rfl) (by kernel_rfl) (by kernel_rfl) (HNo.st wr) (dc_drew (Below.refl _ _)) ?_ ?_
   ·refine AS.sc rfl rfl rfl ?_ ?_
    ·intro k_ u w_ hk_ hJ hF K hK
     clear hF
     obtain ⟨c0, c1, c2, c3, c4, lt⟩ := HEB.out.up (hJ : Below wr.heap.size wr w_)
     go_simp
     exact hK.out _ _ (Below.refl _ _) (rfl) trivial
    refine AS.sc rfl rfl rfl ?_ ?_
    ·intro k_ u w_ hk_ hJ hF K hK
     clear hF
     go_simp
     exact hK.out _ _ (Below.refl _ _) (rfl) trivial
    refine AS.sc rfl rfl rfl ?_ ?_
    ·intro k_ u w_ hk_ hJ hF K hK
     clear hF
     go_simp
     exact hK.out _ _ (Below.refl _ _) (rfl) trivial
    refine AS.sc rfl rfl rfl ?_ ?_
    ·intro k_ u w_ hk_ hJ hF K hK
     have h25 : u 25 = .slice (some ⟨bb, off, none⟩) (m : Nat) cb := AS.facts_get hF 25 (by simp)
     have h26 : u 26 = .int .i64 (k : Int) := AS.facts_get hF 26 (by simp)
     clear hF
     simp only [h25, h26] at hK ⊢
     clear h25 h26
     go_simp
     exact hK.out _ _ (Below.refl _ _) (rfl) trivial
    refine AS.sc rfl rfl rfl ?_ ?_
    ·intro k_ u w_ hk_ hJ hF K hK
     have h27 : u 27 = .pointer (some ⟨bb, off + k * 2, none⟩) := AS.facts_get hF 27 (by simp)
     clear hF
     simp only [h27] at hK ⊢
     clear h27
     go_simp
     exact hK.out _ _ (Below.refl _ _) (rfl) trivial
    refine AS.sc rfl rfl rfl ?_ ?_
    ·intro k_ u w_ hk_ hJ hF K hK
     have h28 : u 28 = .pointer (some ⟨bb, off + k * 2, none⟩) := AS.facts_get hF 28 (by simp)
     clear hF
     simp only [h28] at hK ⊢
     clear h28
     obtain ⟨p0, p1⟩ := HB2.out.up (hJ : Below wr.heap.size wr w_) hbW
     go_simp
     exact hK.out _ _ (Below.refl _ _) (rfl) trivial
    refine AS.sc rfl rfl rfl ?_ ?_
    ·intro k_ u w_ hk_ hJ hF K hK
     clear hF
     go_simp
     exact hK.out _ _ (Below.refl _ _) (rfl) trivial
    refine AS.sc rfl rfl rfl ?_ ?_
    ·intro k_ u w_ hk_ hJ hF K hK
     have h24 : u 24 = .agg #[.string nm, .string cur, .slice A n cp, .slice B p d, .bool jt] := AS.facts_get hF 24 (by simp)
     have h29 : u 29 = .int .i64 x.acct := AS.facts_get hF 29 (by simp)
     have h30 : u 30 = .int .i64 day := AS.facts_get hF 30 (by simp)
     clear hF
     simp only [h24, h29, h30] at hK ⊢
     clear h24 h29 h30
     have hz9 := HZ.out.up (hJ : Below wr.heap.size wr w_)
     have hy9 := HY.out.up (hJ : Below wr.heap.size wr w_)
     go_simp
     refine (H3x.out _ hz9 hy9).mono ?_
     rintro e w3 ⟨rfl, hb⟩
     exact hK.out _ _ hb (rfl) trivial
    refine AS.sc rfl rfl rfl ?_ ?_
    ·intro k_ u w_ hk_ hJ hF K hK
     have h31 : u 31 = .tuple #[.int .i64 te, .int .i64 ee] := AS.facts_get hF 31 (by simp)
     clear hF
     simp only [h31] at hK ⊢
     clear h31
     go_simp
     exact hK.out _ _ (Below.refl _ _) (rfl) trivial
    refine AS.sc rfl rfl rfl ?_ ?_
    ·intro k_ u w_ hk_ hJ hF K hK
     have h23 : u 23 = .tuple #[.int .i64 te, .int .i64 ee] := AS.facts_get hF 23 (by simp)
     clear hF
     simp only [h23] at hK ⊢
     clear h23
     go_simp
     exact hK.out _ _ (Below.refl _ _) (rfl) trivial
    refine AS.sc rfl rfl rfl ?_ ?_
    ·intro k_ u w_ hk_ hJ hF K hK
     have h23 : u 23 = .tuple #[.int .i64 te, .int .i64 ee] := AS.facts_get hF 23 (by simp)
     clear hF
     simp only [h23] at hK ⊢
     clear h23
     go_simp
     exact hK.out _ _ (Below.refl _ _) (rfl) trivial
    refine AS.sc rfl rfl rfl ?_ ?_
    ·intro k_ u w_ hk_ hJ hF K hK
     have h32 : u 32 = .int .i64 te := AS.facts_get hF 32 (by simp)
     clear hF
     simp only [h32] at hK ⊢
     clear h32
     go_simp
     exact hK.out _ _ (Below.refl _ _) (rfl) trivial
    refine AS.sc rfl rfl rfl ?_ ?_
    ·intro k_ u w_ hk_ hJ hF K hK
     have h33 : u 33 = .int .i64 ee := AS.facts_get hF 33 (by simp)
     clear hF
     simp only [h33] at hK ⊢
     clear h33
     go_simp
     exact hK.out _ _ (Below.refl _ _) (rfl) trivial
    exact AS.StepsOk.nil
   ·intro u W9 hJ9 hF
    have h10 : u 10 = .int .i64 te := AS.facts_get hF 10 (by simp [rmF, AS.temps])
    have h11 : u 11 = .int .i64 ee := AS.facts_get hF 11 (by simp [rmF, AS.temps])
    have hB9 : Below wr.heap.size wr W9 := hJ9
    clear hF hJ9
    have HO5 := Lib.hid (HO.out.up hB9)
    have HB5 := Lib.hid (hB.trans (hB9.mono hsz))
    have HZ5 := Lib.hid (Nat.le_trans hsz hB9.size)
    have p5 : W9.cell? ⟨bb, off + k * 2 + 1, none⟩ = some (.int .i64 x.amt) := (HB2.out.up hB9 hbW).c1
    have hlz : bb < W9.heap.size := World.block_lt_of_cell? W9 _ p5
    simp only [h10, h11]
    clear h10 h11 hB9
    by_cases he : ee = 0
    ·have e0 : (ee != 0) = false := by simp [he]
     have HAL2 : Hid (∀ i, i < k + 1 → E (b.getD i bal0).acct = 0) := Lib.hid (fun i hi => by
      rcases Nat.lt_or_ge i k with h9 | h9
      ·exact HALL.out i h9
      ·obtain rfl : i = k := by omega
       rw [HXE.out, HEE.out]; exact he)
     clear he hn2'
     go_wp2_with (go_at_call 41; (with_reducible refine (HPUT.out _ _ HO5.out HZ5.out).mono ?_); rintro e w6 ⟨v6, rfl, ho6, hb⟩; have HO6 := Lib.hid ho6; rw [← HS2.out] at HO6; have hB6 := HB5.out.trans hb; clear hb ho6)
     go_roundg (m - (k + 1))
     case measure => omega
     case rel => exact ⟨k + 1, by go_num, by omega, by omega, HO6, HAL2, hB6⟩
    ·have e0 : (ee != 0) = true := by simp [he]
     obtain ⟨h8, h9⟩ := hn2' he
     have E1 := Lib.hid h8
     have R1 := Lib.hid h9
     clear hn2' he h8 h9
     go_wp2_with fail
     go_ret2
     exact ⟨_, by rw [E1.out]; rfl, by rw [R1.out]; exact SlB.nil, by first | exact HBA.out.trans (HB5.out.mono hws) | (rw [← HS0.out]; exact HBA.out.trans (HB5.out.mono hws))⟩
  ·obtain rfl : k = m := by omega
   have hltz : ¬ (k : Int) < (k : Int) := by omega
   obtain ⟨hE1, hE0⟩ := HN3'.out HALL.out
   have ho := HO.out
   rw [HTE.out k (Nat.le_refl _)] at ho
   have hsl : (sumsL (T b)).length ≤ 1000 := by have := HTL.out k; rw [HTE.out k (Nat.le_refl _)] at this; exact Nat.le_trans sumsL_len this
   obtain ⟨S, hS⟩ : ∃ S, sumsL (T b) = S := ⟨_, rfl⟩
   rw [hS] at ho hE1 hE0 hsl
   obtain ⟨A8, c8, e8, hat⟩ := ho.slb
   obtain ⟨q, hq⟩ : ∃ q, S.length = q := ⟨_, rfl⟩
   rw [hq] at e8 hsl
   subst e8
   have HE1 := Lib.hid hE1
   have HE0 := Lib.hid hE0
   have HAT := Lib.hid hat
   have HN := Lib.hid hq
   have HB0 : Hid (Below w.heap.size w wr) := Lib.hid (HBA.out.trans (hB.mono hws))
   clear hE1 hE0 ho hS hat hq HO
   go_wp2_with fail
   obtain ⟨s2, hs2⟩ : ∃ s2, wr.heap.size = s2 := ⟨_, rfl⟩
   have hws2 : w.heap.size ≤ s2 := by rw [← hs2]; exact HB0.out.size
   have HS2 := Lib.hid hs2
   have hB2 : Below s2 wr wr := Below.refl _ _
   have hO2 : Hid (OwnB 71 wr s2 (.slice none 0 0) (pick0 (S.take 0))) := Lib.hid OwnB.nil
   clear hs2 hB
   go_loopg [12, 13] q (fun jx s12 s13 W => ∃ j : Nat, s13 = .int .i64 j ∧ j ≤ q ∧ q - j ≤ jx ∧ Hid (amtsB (S.take j) = true) ∧ Hid (OwnB 71 W s2 s12 (pick0 (S.take j))) ∧ Below s2 wr W)
   case atStart => exact ⟨0, rfl, by omega, by omega, Lib.hid rfl, hO2, hB2⟩
   case round =>
    clear hB2 hO2
    rename World => W
    obtain ⟨j, rfl, hj, hjx, HA, hO, hB⟩ := hrel
    have hsz2 : s2 ≤ W.heap.size := by have := hB.size; have := HS2.out; omega
    by_cases hjq : j < q
    ·have hjz : (j : Int) < (q : Int) := by omega
     obtain ⟨b9, off9, rfl, hb9, hc9⟩ := HAT.out (by rw [HN.out]; omega)
     obtain ⟨p0, p1⟩ := (hc9 j (by rw [HN.out]; exact hjq)).up hB (by rw [← HS2.out]; exact hb9)
     have htk := pick0_succ (l := S) (k := j) (by rw [HN.out]; exact hjq)
     have hno := fun h => all_false_getD (d := bal0) (p := fun x : Bal => amtB x.amt) (L := S) (k := j) (by rw [HN.out]; exact hjq) h
     have h9 := take_all_getD (d := bal0) (p := fun x : Bal => amtB x.amt) S j (by rw [HN.out]; exact hjq)
     have hln : Hid ((pick0 (S.take j)).length ≤ 100000000) := Lib.hid (by have := pick0_len (l := S.take j); rw [List.length_take] at this; omega)
     generalize S.getD j bal0 = x at *
     obtain ⟨t, z⟩ := x
     dsimp only at p0 p1 htk hno h9
     have ha := fun w => ramt_any z w
     have HNo := Lib.hid hno
     have H9 := Lib.hid h9
     clear hc9 hno h9
     cases hq : amtB z
     ·rw [hq] at ha
      have E1 := Lib.hid (HE1.out (HNo.out hq)).1
      have R1 := Lib.hid (HE1.out (HNo.out hq)).2
      have HAm := Lib.hid ha
      clear ha hq htk
      go_wp2_with (go_at_call 42; (with_reducible refine (HAm.out _).mono ?_); rintro e w3 ⟨rfl, rfl⟩)
      go_ret2
      exact ⟨_, by rw [E1.out]; rfl, by rw [R1.out]; exact SlB.nil, by first | exact HB0.out.trans (hB.mono hws2) | (rw [← HS0.out]; exact HB0.out.trans (hB.mono hws2))⟩
     ·rw [hq] at ha
      have HAm := Lib.hid ha
      have HA2 : Hid (amtsB (S.take (j + 1)) = true) := Lib.hid (by show (S.take (j + 1)).all _ = true; rw [H9.out]; show (amtsB (S.take j) && amtB z) = true; rw [HA.out, hq]; rfl)
      clear ha hq
      by_cases h0 : z = 0
      ·rw [if_pos h0] at htk
       have e0 : (z != 0) = false := by simp [h0]
       have hO2 : Hid (OwnB 71 W s2 u12 (pick0 (S.take (j + 1)))) := Lib.hid (by rw [htk]; exact hO.out)
       clear h0 htk
       go_wp2_with (go_at_call 42; (with_reducible refine (HAm.out _).mono ?_); rintro e w3 ⟨rfl, rfl⟩)
       go_roundg (q - (j + 1))
       case measure => omega
       case rel => exact ⟨j + 1, by go_num, by omega, by omega, HA2, hO2, hB⟩
      ·rw [if_neg h0] at htk
       have e0 : (z != 0) = true := by simp [h0]
       have HTK2 := Lib.hid htk
       clear h0 htk
       go_wp2_with (first
        | (go_at_call 42; (with_reducible refine (HAm.out _).mono ?_); rintro e w3 ⟨rfl, rfl⟩)
        | (at_builtin; refine wpList_append_bg _ rfl (.tmp 64) (.tmp 69) 36 rfl s2 71 i0 16 Try.underlying36 hi hz1 hz2 hz3 (by omega) u12 _ (by rfl) hO.out t z _ 1 (by first | rfl | simp) rfl hln.out hsz2 ?_; intro v2 w4 ho2 hb2; replace ho2 := ho2.out; rw [← HTK2.out] at ho2; replace ho2 := Lib.hid ho2; replace hB := hB.trans hb2; clear hb2))
       go_roundg (q - (j + 1))
       case measure => omega
       case rel => exact ⟨j + 1, by go_num, by omega, by omega, HA2, ho2, hB⟩
    ·obtain rfl : j = q := by omega
     have hjz : ¬ (j : Int) < (j : Int) := by omega
     have hA := HA.out
     rw [List.take_of_length_le (by rw [HN.out]; omega)] at hA
     obtain ⟨hE, hR⟩ := HE0.out hA
     have ho := hO.out.slb
     rw [List.take_of_length_le (by rw [HN.out]; omega), ← hR] at ho
     have HO9 := Lib.hid ho
     have E1 := Lib.hid hE
     clear ho hA hE hR
     go_wp2_with fail
     go_ret2
     exact ⟨_, by rw [E1.out]; rfl, HO9.out, by first | exact HB0.out.trans (hB.mono hws2) | (rw [← HS0.out]; exact HB0.out.trans (hB.mono hws2))⟩
theorem wpList_app_bals {P : Program} {w : World} {ops : Array Oper} {rest : List Oper} {o : Oper} {a : Act} {Q : Exit → Act → World → Prop} (hgd : o.guard = none) (s x : Operand) (t : TypeId)
  (ho : o.op = .call { callee := .builtin .append, args := #[s, x], argTypes := #[t, t] })
  (base : Nat) (e : TypeId) (i : TypeInfo) (bytes : Nat) (ht : P.underlying t = some (.slice e)) (hi : P.info? e = some i) (hz : i.zero = some (.agg #[.int .i64 0, .int .i64 0])) (hsize : i.size = 2) (hby : i.bytes = bytes) (hb8 : bytes ≤ 16)
  (v : Value) (L : List Bal) (hs : a.eval s = v) (hown : OwnB e w base v L) (X : Option Addr) (m c : Nat) (M : List Bal) (hm : M.length = m) (hx : a.eval x = .slice X m c) (hX : BalAt w X M)
  (hlen : L.length + m ≤ 100000000) (hbase : base ≤ w.heap.size)
  (h : ∀ v' w', Hid (OwnB e w' base v' (L ++ M)) → Hid (w.grownBy w' v.ownBlock) → Below base w w' → wpList P ops Q rest (a.put o.dst v') w') : wpList P ops Q (o :: rest) a w := by
 refine wpList_plain hgd fun K hK => ?_
 have h9 := step_app_bals (ops := ops) (tm := #[]) (Q := Q) (K := K) (E := True) hgd s x t ho base e i bytes ht hi hz hsize hby hb8 v L hs hown X m c M hm hx hX hlen hbase (fun v' w' h1 h2 h3 => hK _ _ (h v' w' h1 h2 h3))
 rwa [if_pos (by simp [Region.wanted, hgd])] at h9
set_option maxRecDepth 20000 in
set_option maxHeartbeats 3200000 in
theorem law_mpmove (nm cur : ByteArray) (A : Option Addr) (n c : Nat) (L : List Acc) (B : Option Addr) (m d : Nat) (K : List Lnk) (jt : Bool) (C : Option Addr) (k cb : Nat) (b : List Bal) (day : Int) (w : World) (hk : EntK w A n L B m K) (hlen : b.length = k) (hx : BalAt w C b) (hwb : ∀ y ∈ b, (Lit.int .i64 y.acct).wf = true) :
  Calls Try.prog 5 #[entV nm cur A n c B m d jt, .slice C k cb, .int .i64 day] w fun e w' => e = .returned (.bool true) ∧ Below w.heap.size w w' := by
 have hB := below_alloc_new (w := w) (.cells #[.string nm, .string cur, .slice A n c, .slice B m d, .bool jt] 25)
 have HE := Lib.hid (eb_new w 25 nm cur A n c B m d jt)
 have HZ := Lib.hid (hk.hz.up hB)
 have HY := Lib.hid (hk.hy.up hB)
 have hfw := fun w => rfew9_any nm cur A n c B m d jt w
 have hfq := fewB_is (nm := nm) (cur := cur) (n := n) (m := m)
 generalize fewB nm cur n m = fb at *
 have HX := Lib.hid (hx.up hB)
 obtain ⟨s0, hs0⟩ : ∃ s0, w.heap.size = s0 := ⟨_, rfl⟩
 rw [hs0] at hB
 have HS0 := Lib.hid hs0
 have HFW := Lib.hid hfw
 have HK := Lib.hid hk
 have HLK := Lib.hid hlen
 have HWB := Lib.hid hwb
 clear hk hfw hs0 hx hlen hwb
 obtain ⟨c0, c1, c2, c3, c4, lt⟩ := HE.out
 cases fb
 ·clear hfq HK
  go_enter Try.func5, Try.ntmps5
  go_wp2_with (first
   | (go_at_call 9; refine (mpawake_any _).mono ?_; rintro e w1 ⟨rfl, hb⟩; replace HE := Lib.hid (HE.out.up hb); replace HZ := Lib.hid (HZ.out.up hb); replace HY := Lib.hid (HY.out.up hb); replace HX := Lib.hid (HX.out.up hb); have hsq := hB.size; rw [HS0.out] at hsq; replace hB := hB.trans (hb.mono hsq); clear hb hsq c0 c1 c2 c3 c4 lt; obtain ⟨c0, c1, c2, c3, c4, lt⟩ := HE.out)
   | (go_at_call 10; (with_reducible refine (HFW.out _).mono ?_); rintro e w1 ⟨rfl, hb⟩; replace HE := Lib.hid (HE.out.up hb); replace HZ := Lib.hid (HZ.out.up hb); replace HY := Lib.hid (HY.out.up hb); replace HX := Lib.hid (HX.out.up hb); have hsq := hB.size; rw [HS0.out] at hsq; replace hB := hB.trans (hb.mono hsq); clear hb hsq c0 c1 c2 c3 c4 lt; obtain ⟨c0, c1, c2, c3, c4, lt⟩ := HE.out))
  go_ret
  exact ⟨rfl, by first | exact hB | (rw [HS0.out]; exact hB)⟩
 obtain ⟨h5, h6⟩ := hfq rfl
 clear hfq
 rcases Nat.lt_or_ge 60 k with hk6 | hk6
 ·have ek : decide ((60 : Int) < (k : Int)) = true := decide_eq_true (by omega)
  clear HK hk6 h5 h6
  go_enter Try.func5, Try.ntmps5
  go_wp2_with (first
   | (go_at_call 9; refine (mpawake_any _).mono ?_; rintro e w1 ⟨rfl, hb⟩; replace HE := Lib.hid (HE.out.up hb); replace HZ := Lib.hid (HZ.out.up hb); replace HY := Lib.hid (HY.out.up hb); replace HX := Lib.hid (HX.out.up hb); have hsq := hB.size; rw [HS0.out] at hsq; replace hB := hB.trans (hb.mono hsq); clear hb hsq c0 c1 c2 c3 c4 lt; obtain ⟨c0, c1, c2, c3, c4, lt⟩ := HE.out)
   | (go_at_call 10; (with_reducible refine (HFW.out _).mono ?_); rintro e w1 ⟨rfl, hb⟩; replace HE := Lib.hid (HE.out.up hb); replace HZ := Lib.hid (HZ.out.up hb); replace HY := Lib.hid (HY.out.up hb); replace HX := Lib.hid (HX.out.up hb); have hsq := hB.size; rw [HS0.out] at hsq; replace hB := hB.trans (hb.mono hsq); clear hb hsq c0 c1 c2 c3 c4 lt; obtain ⟨c0, c1, c2, c3, c4, lt⟩ := HE.out))
  go_ret
  exact ⟨rfl, by first | exact hB | (rw [HS0.out]; exact hB)⟩
 have ek : decide ((60 : Int) < (k : Int)) = false := decide_eq_false (by omega)
 have hK2 := HK.out
 have hln : L.length ≤ 1000 := by have := hK2.ln; omega
 have hlm : K.length ≤ 1000 := by have := hK2.lm; omega
 have hlb : b.length ≤ 1000 := by have := HLK.out; omega
 have h1 := fun C cb w h h' h'' => cmove9_any nm cur A c L B d K jt C cb b day w h h' h'' hln hlm hlb hK2.wa hK2.wl HWB.out
 have h2 := fun w h h' h'' => rmove9_any nm cur A c L B d K jt C cb b day w h h' h'' hln hlm hlb
 rw [hK2.ln, hK2.lm, HLK.out] at h1 h2
 have hml := moveL_len (L := L) (K := K) (day := day) (b := b)
 generalize moveE L K day b = er at *
 generalize moveL L K day b = M at *
 obtain ⟨nl, hnl⟩ : ∃ nl, M.length = nl := ⟨_, rfl⟩
 have s1 := fun A B c d w h1 h2 => rsameb_any A B c d M M w h1 h2 (by omega) (by omega)
 have s2 := fun A B c d w h1 h2 => rsameb_any A B c d b b w h1 h2 (by omega) (by omega)
 rw [show decide (M = M) = true from by simp, hnl] at s1
 rw [show decide (b = b) = true from by simp, HLK.out] at s2
 have ett : (er == er) = true := by simp
 obtain ⟨i0, hi, hz1, hz2, hz3⟩ := info_parts infoI_bal
 have H1 := Lib.hid h1
 have H2 := Lib.hid h2
 have S1 := Lib.hid s1
 have S2 := Lib.hid s2
 have HNL := Lib.hid hnl
 clear h1 h2 s1 s2 hnl hml hln hlm hlb hK2 HK h5 h6
 go_enter Try.func5, Try.ntmps5
 go_wp2_with (first
  | (go_at_call 9; refine (mpawake_any _).mono ?_; rintro e w1 ⟨rfl, hb⟩; replace HE := Lib.hid (HE.out.up hb); replace HZ := Lib.hid (HZ.out.up hb); replace HY := Lib.hid (HY.out.up hb); replace HX := Lib.hid (HX.out.up hb); have hsq := hB.size; rw [HS0.out] at hsq; replace hB := hB.trans (hb.mono hsq); clear hb hsq c0 c1 c2 c3 c4 lt; obtain ⟨c0, c1, c2, c3, c4, lt⟩ := HE.out)
  | (go_at_call 10; (with_reducible refine (HFW.out _).mono ?_); rintro e w1 ⟨rfl, hb⟩; replace HE := Lib.hid (HE.out.up hb); replace HZ := Lib.hid (HZ.out.up hb); replace HY := Lib.hid (HY.out.up hb); replace HX := Lib.hid (HX.out.up hb); have hsq := hB.size; rw [HS0.out] at hsq; replace hB := hB.trans (hb.mono hsq); clear hb hsq c0 c1 c2 c3 c4 lt; obtain ⟨c0, c1, c2, c3, c4, lt⟩ := HE.out)
  | (at_builtin; refine wpList_app_bals rfl (.tmp 22) (.tmp 23) 36 rfl _ 71 i0 16 Try.underlying36 hi hz1 hz2 hz3 (by omega) _ [] rfl (OwnB.empty (Nat.le_refl _)) C k cb b HLK.out rfl (HX.out.up (below_alloc_new _)) (by first | (simp; done) | (simp; omega)) (by simp) ?_; intro v5 w5 ho5 hg5 hb5; obtain ⟨A5, c5, hv5, hI5⟩ := ho5.out.slb; rw [List.nil_append, HLK.out] at hv5; rw [List.nil_append] at hI5; subst hv5; have HI5 := Lib.hid hI5; have hb := (below_alloc_new _).trans hb5; replace HE := Lib.hid (HE.out.up hb); replace HZ := Lib.hid (HZ.out.up hb); replace HY := Lib.hid (HY.out.up hb); replace HX := Lib.hid (HX.out.up hb); have hsq := hB.size; rw [HS0.out] at hsq; replace hB := hB.trans (hb.mono hsq); clear hb hsq hb5 hg5 ho5 hI5 c0 c1 c2 c3 c4 lt; obtain ⟨c0, c1, c2, c3, c4, lt⟩ := HE.out)
  | (go_at_call 18; (with_reducible refine (H1.out _ _ _ HZ.out HY.out HI5.out).mono ?_); rintro e w6 ⟨v6, rfl, hs6, hb⟩; obtain ⟨A6, c6, hv6, hI6⟩ := hs6; rw [HNL.out] at hv6; subst hv6; have HI6 := Lib.hid hI6; replace HI5 := Lib.hid (HI5.out.up hb); replace HE := Lib.hid (HE.out.up hb); replace HZ := Lib.hid (HZ.out.up hb); replace HY := Lib.hid (HY.out.up hb); replace HX := Lib.hid (HX.out.up hb); have hsq := hB.size; rw [HS0.out] at hsq; replace hB := hB.trans (hb.mono hsq); clear hb hsq hI6 c0 c1 c2 c3 c4 lt; obtain ⟨c0, c1, c2, c3, c4, lt⟩ := HE.out)
  | (go_at_call 19; (with_reducible refine (H2.out _ HZ.out HY.out HX.out).mono ?_); rintro e w7 ⟨v7, rfl, hs7, hb⟩; obtain ⟨A7, c7, hv7, hI7⟩ := hs7; rw [HNL.out] at hv7; subst hv7; have HI7 := Lib.hid hI7; replace HI5 := Lib.hid (HI5.out.up hb); replace HI6 := Lib.hid (HI6.out.up hb); replace HE := Lib.hid (HE.out.up hb); replace HZ := Lib.hid (HZ.out.up hb); replace HY := Lib.hid (HY.out.up hb); replace HX := Lib.hid (HX.out.up hb); have hsq := hB.size; rw [HS0.out] at hsq; replace hB := hB.trans (hb.mono hsq); clear hb hsq hI7 c0 c1 c2 c3 c4 lt; obtain ⟨c0, c1, c2, c3, c4, lt⟩ := HE.out)
  | (go_at_call 20; first
   | ((with_reducible refine (S1.out _ _ _ _ _ HI6.out HI7.out).mono ?_); rintro e w8 ⟨rfl, hb⟩; replace HI5 := Lib.hid (HI5.out.up hb); replace HX := Lib.hid (HX.out.up hb); have hsq := hB.size; rw [HS0.out] at hsq; replace hB := hB.trans (hb.mono hsq); clear hb hsq)
   | ((with_reducible refine (S2.out _ _ _ _ _ HI5.out HX.out).mono ?_); rintro e w9 ⟨rfl, hb⟩; have hsq := hB.size; rw [HS0.out] at hsq; replace hB := hB.trans (hb.mono hsq); clear hb hsq)))
 go_ret
 exact ⟨rfl, by first | exact hB | (rw [HS0.out]; exact hB)⟩
end Go.Proofs.Ytmahnpbjjadipaa
