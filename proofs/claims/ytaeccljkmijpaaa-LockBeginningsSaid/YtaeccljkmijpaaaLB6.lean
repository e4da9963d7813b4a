/- Contracts of the functions that the statements reach, part 6: what was proved of each, callees first. -/
import Derived.BigQuiet
import Derived.Test.YtaeccljkmijpaaaLB5
namespace Go.Proofs.Ytaeccljkmijpaaa
open Go.RowKit
set_option maxRecDepth 100000 in
theorem gs_cells : (lyA.all smpL).toArray = #[.int .i64 1000, .int .i64 1, .int .i64 1, .int .i64 0, .int .i64 1010, .int .i64 1, .int .i64 1, .int .i64 1000, .int .i64 1100, .int .i64 1, .int .i64 1, .int .i64 1000, .int .i64 1200, .int .i64 1, .int .i64 1, .int .i64 1000, .int .i64 1300, .int .i64 1, .int .i64 3, .int .i64 0, .int .i64 1500, .int .i64 1, .int .i64 3, .int .i64 0, .int .i64 1600, .int .i64 1, .int .i64 3, .int .i64 0, .int .i64 1700, .int .i64 1, .int .i64 3, .int .i64 0, .int .i64 2000, .int .i64 2, .int .i64 1, .int .i64 0, .int .i64 2100, .int .i64 2, .int .i64 1, .int .i64 2000, .int .i64 3000, .int .i64 3, .int .i64 3, .int .i64 0, .int .i64 3100, .int .i64 3, .int .i64 3, .int .i64 0, .int .i64 3200, .int .i64 3, .int .i64 3, .int .i64 0, .int .i64 3300, .int .i64 3, .int .i64 3, .int .i64 0, .int .i64 3400, .int .i64 3, .int .i64 3, .int .i64 0, .int .i64 3500, .int .i64 3, .int .i64 3, .int .i64 0, .int .i64 4000, .int .i64 4, .int .i64 2, .int .i64 0, .int .i64 4100, .int .i64 4, .int .i64 2, .int .i64 4000, .int .i64 4500, .int .i64 4, .int .i64 2, .int .i64 0, .int .i64 4600, .int .i64 4, .int .i64 2, .int .i64 0, .int .i64 4700, .int .i64 4, .int .i64 2, .int .i64 0, .int .i64 5000, .int .i64 5, .int .i64 2, .int .i64 0, .int .i64 5100, .int .i64 5, .int .i64 2, .int .i64 0, .int .i64 5500, .int .i64 5, .int .i64 2, .int .i64 0, .int .i64 5600, .int .i64 5, .int .i64 2, .int .i64 0, .int .i64 5700, .int .i64 5, .int .i64 2, .int .i64 0] := by kernel_rfl
set_option maxRecDepth 100000 in
set_option maxHeartbeats 3200000 in
theorem gschart_any (w : World) : Calls Try.prog 19 #[] w fun e w' => e = .returned (.slice (some ⟨w.heap.size, 0, none⟩) 26 26) ∧ Wh 71 w' w.heap.size (lyA.all smpL) ∧ Below w.heap.size w w' := by
 have HW : Hid (∀ cs, cs = (#[.int .i64 1000, .int .i64 1, .int .i64 1, .int .i64 0, .int .i64 1010, .int .i64 1, .int .i64 1, .int .i64 1000, .int .i64 1100, .int .i64 1, .int .i64 1, .int .i64 1000, .int .i64 1200, .int .i64 1, .int .i64 1, .int .i64 1000, .int .i64 1300, .int .i64 1, .int .i64 3, .int .i64 0, .int .i64 1500, .int .i64 1, .int .i64 3, .int .i64 0, .int .i64 1600, .int .i64 1, .int .i64 3, .int .i64 0, .int .i64 1700, .int .i64 1, .int .i64 3, .int .i64 0, .int .i64 2000, .int .i64 2, .int .i64 1, .int .i64 0, .int .i64 2100, .int .i64 2, .int .i64 1, .int .i64 2000, .int .i64 3000, .int .i64 3, .int .i64 3, .int .i64 0, .int .i64 3100, .int .i64 3, .int .i64 3, .int .i64 0, .int .i64 3200, .int .i64 3, .int .i64 3, .int .i64 0, .int .i64 3300, .int .i64 3, .int .i64 3, .int .i64 0, .int .i64 3400, .int .i64 3, .int .i64 3, .int .i64 0, .int .i64 3500, .int .i64 3, .int .i64 3, .int .i64 0, .int .i64 4000, .int .i64 4, .int .i64 2, .int .i64 0, .int .i64 4100, .int .i64 4, .int .i64 2, .int .i64 4000, .int .i64 4500, .int .i64 4, .int .i64 2, .int .i64 0, .int .i64 4600, .int .i64 4, .int .i64 2, .int .i64 0, .int .i64 4700, .int .i64 4, .int .i64 2, .int .i64 0, .int .i64 5000, .int .i64 5, .int .i64 2, .int .i64 0, .int .i64 5100, .int .i64 5, .int .i64 2, .int .i64 0, .int .i64 5500, .int .i64 5, .int .i64 2, .int .i64 0, .int .i64 5600, .int .i64 5, .int .i64 2, .int .i64 0, .int .i64 5700, .int .i64 5, .int .i64 2, .int .i64 0] : Array Value) → Wh 71 (w.alloc (.cells cs 71)) w.heap.size (lyA.all smpL)) := Lib.hid (fun cs h => by rw [h, ← gs_cells]; exact Wh.new w 71 (lyA.all smpL))
 have HB := Lib.hid (fun o => below_alloc_new (w := w) o)
 go_enter Try.func19, Try.ntmps19
 go_wp2_with fail
 go_ret
 exact ⟨rfl, HW.out _ rfl, HB.out _⟩
set_option maxRecDepth 100000 in
set_option maxHeartbeats 3200000 in
theorem gsrol_any (w : World) : Calls Try.prog 20 #[] w fun e w' => e = .returned (.agg #[.int .i64 1500, .int .i64 1600, .int .i64 1700, .int .i64 1200, .int .i64 3100, .int .i64 3200, .int .i64 3300, .int .i64 3400, .int .i64 3500, .int .i64 4500, .int .i64 4600, .int .i64 4700, .int .i64 5500, .int .i64 5600, .int .i64 5700]) ∧ Below w.heap.size w w' := by
 obtain ⟨s0, hs0⟩ : ∃ s0, w.heap.size = s0 := ⟨_, rfl⟩
 obtain ⟨w2, hw2⟩ : ∃ w2, w.alloc (.cells #[.int .i64 0, .int .i64 0, .int .i64 0, .int .i64 0, .int .i64 0, .int .i64 0, .int .i64 0, .int .i64 0, .int .i64 0, .int .i64 0, .int .i64 0, .int .i64 0, .int .i64 0, .int .i64 0, .int .i64 0] 26) = w2 := ⟨_, rfl⟩
 have HZ : Hid (Wh 26 w2 s0 [.int .i64 0, .int .i64 0, .int .i64 0, .int .i64 0, .int .i64 0, .int .i64 0, .int .i64 0, .int .i64 0, .int .i64 0, .int .i64 0, .int .i64 0, .int .i64 0, .int .i64 0, .int .i64 0, .int .i64 0]) := Lib.hid (by rw [← hw2, ← hs0]; exact Wh.new w 26 [.int .i64 0, .int .i64 0, .int .i64 0, .int .i64 0, .int .i64 0, .int .i64 0, .int .i64 0, .int .i64 0, .int .i64 0, .int .i64 0, .int .i64 0, .int .i64 0, .int .i64 0, .int .i64 0, .int .i64 0])
 have HON := Lib.hid (fun W (h : Only (fun k => k = w.heap.size) w2 W) => only_new (w := w) (by rw [hw2]; exact h))
 rw [hs0] at HON
 have HS0 := Lib.hid hs0
 go_enter Try.func20, Try.ntmps20
 go_wp2_with (refine wpList_store_wh rfl 26 _ _ rfl s0 rfl 26 [.int .i64 0, .int .i64 0, .int .i64 0, .int .i64 0, .int .i64 0, .int .i64 0, .int .i64 0, .int .i64 0, .int .i64 0, .int .i64 0, .int .i64 0, .int .i64 0, .int .i64 0, .int .i64 0, .int .i64 0] [.int .i64 1500, .int .i64 1600, .int .i64 1700, .int .i64 1200, .int .i64 3100, .int .i64 3200, .int .i64 3300, .int .i64 3400, .int .i64 3500, .int .i64 4500, .int .i64 4600, .int .i64 4700, .int .i64 5500, .int .i64 5600, .int .i64 5700] rfl HZ.out rfl (by kernel_rfl) (by kernel_rfl) ?_; intro W8 hr8 ho8 hz8)
 exact bodyPost_ret (v := .agg #[.int .i64 1500, .int .i64 1600, .int .i64 1700, .int .i64 1200, .int .i64 3100, .int .i64 3200, .int .i64 3300, .int .i64 3400, .int .i64 3500, .int .i64 4500, .int .i64 4600, .int .i64 4700, .int .i64 5500, .int .i64 5600, .int .i64 5700]) (results_cell_mid Try.results20 _ _ s0 [.int .i64 1500, .int .i64 1600, .int .i64 1700, .int .i64 1200, .int .i64 3100, .int .i64 3200, .int .i64 3300, .int .i64 3400, .int .i64 3500, .int .i64 4500, .int .i64 4600, .int .i64 4700, .int .i64 5500, .int .i64 5600, .int .i64 5700] _ rfl hr8.out.range Try.underlying26 rfl (by kernel_rfl)) rfl ⟨rfl, by have h9 := HON.out _ ho8.out; first | exact h9 | (rw [HS0.out]; exact h9)⟩
theorem gs_idx (i : Nat) (h : i < 14) (w : World) : (Instr.index 85 (.agg #[.int .i64 1, .int .i64 1010, .int .i64 1, .int .i64 1100, .int .i64 1, .int .i64 1200, .int .i64 1, .int .i64 1300, .int .i64 1, .int .i64 1500, .int .i64 2, .int .i64 2000, .int .i64 2, .int .i64 2100, .int .i64 3, .int .i64 3000, .int .i64 3, .int .i64 3300, .int .i64 4, .int .i64 4000, .int .i64 4, .int .i64 4100, .int .i64 4, .int .i64 4700, .int .i64 5, .int .i64 5000, .int .i64 5, .int .i64 5100]) (.int .i64 (i : Int))).run Try.prog w = .ok (.agg #[.int .i64 (seK i), .int .i64 (seT i)]) w := by
 have h1 : Try.t84.size = 2 := by kernel_rfl
 have hs : ∀ w : World, (sizeOf 84).run Try.prog w = .ok 2 w := fun w => by simp [sizeOf, h1, go_sem]
 have ha : ∀ w : World, (isAgg 84).run Try.prog w = .ok true w := fun w => by simp [isAgg, run_underlying Try.underlying84, go_sem]
 have hi : i = 0 ∨ i = 1 ∨ i = 2 ∨ i = 3 ∨ i = 4 ∨ i = 5 ∨ i = 6 ∨ i = 7 ∨ i = 8 ∨ i = 9 ∨ i = 10 ∨ i = 11 ∨ i = 12 ∨ i = 13 := by omega
 rcases hi with rfl | rfl | rfl | rfl | rfl | rfl | rfl | rfl | rfl | rfl | rfl | rfl | rfl | rfl <;>
  (simp [Instr.index, Go.part, run_underlying Try.underlying85, asIntOf, hs, ha, go_sem]; try exact ⟨rfl, rfl⟩)
set_option maxRecDepth 100000 in
set_option maxHeartbeats 12800000 in
theorem gsent_any (nm cu : ByteArray) (jt : Bool) (w : World) : Calls Try.prog 21 #[.string nm, .string cu, .bool jt] w fun e w' => (∃ p : EAd, e = .returned (.agg #[.string nm, .string cu, .slice p.A 14 p.c, .slice p.B 14 p.d, .bool jt]) ∧ EOw w.heap.size p w') ∧ Below w.heap.size w w' := by
 obtain ⟨i0, hi, hz1, hz2, hz3⟩ := info_parts infoAcJ
 obtain ⟨i1, hj, hy1, hy2, hy3⟩ := info_parts infoLk
 obtain ⟨s0, hs0⟩ : ∃ s0, w.heap.size = s0 := ⟨_, rfl⟩
 have HS0 := Lib.hid hs0
 obtain ⟨w2, hw2⟩ : ∃ w2, (w.alloc (.cells #[.string ⟨#[]⟩, .string ⟨#[]⟩, .slice none 0 0, .slice none 0 0, .bool false] 50)).alloc (.cells #[.int .i64 0, .int .i64 0, .int .i64 0, .int .i64 0, .int .i64 0, .int .i64 0, .int .i64 0, .int .i64 0, .int .i64 0, .int .i64 0, .int .i64 0, .int .i64 0, .int .i64 0, .int .i64 0, .int .i64 0, .int .i64 0, .int .i64 0, .int .i64 0, .int .i64 0, .int .i64 0, .int .i64 0, .int .i64 0, .int .i64 0, .int .i64 0, .int .i64 0, .int .i64 0, .int .i64 0, .int .i64 0] 85) = w2 := ⟨_, rfl⟩
 have hb01 : Below s0 w (w.alloc (.cells #[.string ⟨#[]⟩, .string ⟨#[]⟩, .slice none 0 0, .slice none 0 0, .bool false] 50)) := by rw [← hs0]; exact below_alloc_new _
 have hw0 : Wh 50 (w.alloc (.cells #[.string ⟨#[]⟩, .string ⟨#[]⟩, .slice none 0 0, .slice none 0 0, .bool false] 50)) s0 [.string ⟨#[]⟩, .string ⟨#[]⟩, .slice none 0 0, .slice none 0 0, .bool false] := by rw [← hs0]; exact Wh.new w 50 [.string ⟨#[]⟩, .string ⟨#[]⟩, .slice none 0 0, .slice none 0 0, .bool false]
 have hs1 : (w.alloc (.cells #[.string ⟨#[]⟩, .string ⟨#[]⟩, .slice none 0 0, .slice none 0 0, .bool false] 50)).heap.size = s0 + 1 := by rw [← hs0]; simp
 have hb12 : Below (s0 + 1) (w.alloc (.cells #[.string ⟨#[]⟩, .string ⟨#[]⟩, .slice none 0 0, .slice none 0 0, .bool false] 50)) w2 := by rw [← hw2, ← hs1]; exact below_alloc_new _
 have HZ0 : Hid (Wh 50 w2 s0 [.string ⟨#[]⟩, .string ⟨#[]⟩, .slice none 0 0, .slice none 0 0, .bool false]) := Lib.hid (hw0.up (by rw [hs1]; exact hb12))
 have HA0 : Hid (Wh 85 w2 (s0 + 1) [.int .i64 0, .int .i64 0, .int .i64 0, .int .i64 0, .int .i64 0, .int .i64 0, .int .i64 0, .int .i64 0, .int .i64 0, .int .i64 0, .int .i64 0, .int .i64 0, .int .i64 0, .int .i64 0, .int .i64 0, .int .i64 0, .int .i64 0, .int .i64 0, .int .i64 0, .int .i64 0, .int .i64 0, .int .i64 0, .int .i64 0, .int .i64 0, .int .i64 0, .int .i64 0, .int .i64 0, .int .i64 0]) := Lib.hid (by rw [← hw2]; have h9 := Wh.new (w.alloc (.cells #[.string ⟨#[]⟩, .string ⟨#[]⟩, .slice none 0 0, .slice none 0 0, .bool false] 50)) 85 [.int .i64 0, .int .i64 0, .int .i64 0, .int .i64 0, .int .i64 0, .int .i64 0, .int .i64 0, .int .i64 0, .int .i64 0, .int .i64 0, .int .i64 0, .int .i64 0, .int .i64 0, .int .i64 0, .int .i64 0, .int .i64 0, .int .i64 0, .int .i64 0, .int .i64 0, .int .i64 0, .int .i64 0, .int .i64 0, .int .i64 0, .int .i64 0, .int .i64 0, .int .i64 0, .int .i64 0, .int .i64 0]; rw [hs1] at h9; exact h9)
 have HB2 : Hid (Below s0 w w2) := Lib.hid (hb01.trans (hb12.mono (by omega)))
 have HS2 : Hid (w2.heap.size = s0 + 2) := Lib.hid (by rw [← hw2]; simp [hs0])
 clear hb01 hw0 hs1 hb12
 have HBE : Hid (∀ W, (Instr.build 50 #[(0, .string nm), (1, .string cu), (4, .bool jt)]).run Try.prog W = .ok (.agg #[.string nm, .string cu, .slice none 0 0, .slice none 0 0, .bool jt]) W) := Lib.hid (fun W => run_build W 50 _ _ (by kernel_rfl))
 go_enter Try.func21, Try.ntmps21
 go_upto_region 2 with (refine wpList_store_wh rfl 85 _ _ rfl (s0 + 1) rfl 85 [.int .i64 0, .int .i64 0, .int .i64 0, .int .i64 0, .int .i64 0, .int .i64 0, .int .i64 0, .int .i64 0, .int .i64 0, .int .i64 0, .int .i64 0, .int .i64 0, .int .i64 0, .int .i64 0, .int .i64 0, .int .i64 0, .int .i64 0, .int .i64 0, .int .i64 0, .int .i64 0, .int .i64 0, .int .i64 0, .int .i64 0, .int .i64 0, .int .i64 0, .int .i64 0, .int .i64 0, .int .i64 0] [.int .i64 1, .int .i64 1010, .int .i64 1, .int .i64 1100, .int .i64 1, .int .i64 1200, .int .i64 1, .int .i64 1300, .int .i64 1, .int .i64 1500, .int .i64 2, .int .i64 2000, .int .i64 2, .int .i64 2100, .int .i64 3, .int .i64 3000, .int .i64 3, .int .i64 3300, .int .i64 4, .int .i64 4000, .int .i64 4, .int .i64 4100, .int .i64 4, .int .i64 4700, .int .i64 5, .int .i64 5000, .int .i64 5, .int .i64 5100] rfl HA0.out rfl (by kernel_rfl) (by kernel_rfl) ?_; intro w3 hr3 ho3 hz3; have HA3 := Lib.hid hr3.out; have HO3 := Lib.hid ho3.out; have HS3 : Hid (w3.heap.size = s0 + 2) := Lib.hid (by rw [hz3]; exact HS2.out); clear hr3 ho3 hz3)
 have HZ3 := Lib.hid (HZ0.out.only HO3.out (by show ¬ s0 = s0 + 1; omega))
 have HB3 := Lib.hid (HB2.out.trans (HO3.out.below (B := s0) (fun k hk => by have : k = s0 + 1 := hk; omega) (by have := HS2.out; omega)))
 have HE4 : Hid (Wh 50 (w3.alloc (.cells #[.string ⟨#[]⟩, .string ⟨#[]⟩, .slice none 0 0, .slice none 0 0, .bool false] 50)) (s0 + 2) [.string ⟨#[]⟩, .string ⟨#[]⟩, .slice none 0 0, .slice none 0 0, .bool false]) := Lib.hid (by have h9 := Wh.new w3 50 [.string ⟨#[]⟩, .string ⟨#[]⟩, .slice none 0 0, .slice none 0 0, .bool false]; rw [HS3.out] at h9; exact h9)
 have hs3 := HS3.out
 go_upto_region 4 with (first
  | (refine wpList_build_is rfl 50 _ rfl [(0, .string nm), (1, .string cu), (4, .bool jt)] rfl (.agg #[.string nm, .string cu, .slice none 0 0, .slice none 0 0, .bool jt]) (HBE.out _) ?_)
  | (refine wpList_store_wh rfl 50 _ _ rfl (s0 + 2) (by first | rfl | (rw [← HS3.out]; rfl)) 50 [.string ⟨#[]⟩, .string ⟨#[]⟩, .slice none 0 0, .slice none 0 0, .bool false] [.string nm, .string cu, .slice none 0 0, .slice none 0 0, .bool jt] rfl HE4.out rfl (by kernel_rfl) (by kernel_rfl) ?_; intro w4 hr4 ho4 hz4; have HE5 := Lib.hid hr4.out; have hb4 : Below w3.heap.size w3 w4 := only_new (by rw [HS3.out]; exact ho4.out); have HA4 := Lib.hid (HA3.out.up hb4); have HZ4 := Lib.hid (HZ3.out.up hb4); have HB4 := Lib.hid (HB3.out.trans (hb4.mono (by have := HS3.out; omega))); have HS4 : Hid (w4.heap.size = s0 + 3) := Lib.hid (by rw [hz4]; simp [HS3.out]); have HLA : Hid ((Instr.loadAt 85 (.pointer (some ⟨s0 + 1, 0, none⟩))).run Try.prog w4 = .ok (.agg #[.int .i64 1, .int .i64 1010, .int .i64 1, .int .i64 1100, .int .i64 1, .int .i64 1200, .int .i64 1, .int .i64 1300, .int .i64 1, .int .i64 1500, .int .i64 2, .int .i64 2000, .int .i64 2, .int .i64 2100, .int .i64 3, .int .i64 3000, .int .i64 3, .int .i64 3300, .int .i64 4, .int .i64 4000, .int .i64 4, .int .i64 4100, .int .i64 4, .int .i64 4700, .int .i64 5, .int .i64 5000, .int .i64 5, .int .i64 5100]) w4) := Lib.hid (HA4.out.rg.load 0 85 [.int .i64 1, .int .i64 1010, .int .i64 1, .int .i64 1100, .int .i64 1, .int .i64 1200, .int .i64 1, .int .i64 1300, .int .i64 1, .int .i64 1500, .int .i64 2, .int .i64 2000, .int .i64 2, .int .i64 2100, .int .i64 3, .int .i64 3000, .int .i64 3, .int .i64 3300, .int .i64 4, .int .i64 4000, .int .i64 4, .int .i64 4100, .int .i64 4, .int .i64 4700, .int .i64 5, .int .i64 5000, .int .i64 5, .int .i64 5100] rfl _ Try.underlying85 rfl (by kernel_rfl)); clear hr4 ho4 hz4 hb4)
  | (refine wpList_load_is rfl 85 _ rfl (.pointer (some ⟨s0 + 1, 0, none⟩)) rfl (.agg #[.int .i64 1, .int .i64 1010, .int .i64 1, .int .i64 1100, .int .i64 1, .int .i64 1200, .int .i64 1, .int .i64 1300, .int .i64 1, .int .i64 1500, .int .i64 2, .int .i64 2000, .int .i64 2, .int .i64 2100, .int .i64 3, .int .i64 3000, .int .i64 3, .int .i64 3300, .int .i64 4, .int .i64 4000, .int .i64 4, .int .i64 4100, .int .i64 4, .int .i64 4700, .int .i64 5, .int .i64 5000, .int .i64 5, .int .i64 5100]) HLA.out ?_))
 have HIX : Hid (∀ (i : Nat) (h : i < 14) (W : World), (Instr.index 85 (.agg #[.int .i64 1, .int .i64 1010, .int .i64 1, .int .i64 1100, .int .i64 1, .int .i64 1200, .int .i64 1, .int .i64 1300, .int .i64 1, .int .i64 1500, .int .i64 2, .int .i64 2000, .int .i64 2, .int .i64 2100, .int .i64 3, .int .i64 3000, .int .i64 3, .int .i64 3300, .int .i64 4, .int .i64 4000, .int .i64 4, .int .i64 4100, .int .i64 4, .int .i64 4700, .int .i64 5, .int .i64 5000, .int .i64 5, .int .i64 5100]) (.int .i64 (i : Int))).run Try.prog W = .ok (.agg #[.int .i64 (seK i), .int .i64 (seT i)]) W) := Lib.hid gs_idx
 obtain ⟨VA, hVA⟩ : ∃ VA, (Value.agg #[.int .i64 1, .int .i64 1010, .int .i64 1, .int .i64 1100, .int .i64 1, .int .i64 1200, .int .i64 1, .int .i64 1300, .int .i64 1, .int .i64 1500, .int .i64 2, .int .i64 2000, .int .i64 2, .int .i64 2100, .int .i64 3, .int .i64 3000, .int .i64 3, .int .i64 3300, .int .i64 4, .int .i64 4000, .int .i64 4, .int .i64 4100, .int .i64 4, .int .i64 4700, .int .i64 5, .int .i64 5000, .int .i64 5, .int .i64 5100]) = VA := ⟨_, rfl⟩
 rw [hVA] at HIX HLA ⊢
 clear hVA
 go_loopg [32] 14 (fun kx s32 wr => ∃ (i : Nat), s32 = .int .i64 i ∧ i ≤ 14 ∧ 14 - i ≤ kx ∧ (∃ va vl, Hid (Wh 50 wr (s0 + 2) [.string nm, .string cu, va, vl, .bool jt]) ∧ Hid (OwnR lyA 71 wr (s0 + 3) va (seA i)) ∧ Hid (OwnR lyL 80 wr (s0 + 3) vl (seL i))) ∧ Hid (Below (s0 + 2) w4 wr) ∧ Hid (s0 + 3 ≤ wr.heap.size))
 case atStart => exact ⟨0, rfl, by omega, by omega, ⟨_, _, Lib.hid HE5.out, Lib.hid OwnR.nil, Lib.hid OwnR.nil⟩, Lib.hid (Below.refl _ _), Lib.hid (by have := HS4.out; omega)⟩
 case round =>
  obtain ⟨i, rfl, hi14, hkx, ⟨va, vl, HG, HA, HV⟩, HB, HW1⟩ := hrel
  by_cases hlt : i < 14
  ·have hltz : (i : Int) < 14 := by omega
   have hlt2 : decide ((i : Int) < 14) = true := decide_eq_true hltz
   have hix := HIX.out i hlt
   obtain ⟨q1, hq1⟩ : ∃ q1, seK i = q1 := ⟨_, rfl⟩
   obtain ⟨q2, hq2⟩ : ∃ q2, seT i = q2 := ⟨_, rfl⟩
   rw [hq1, hq2] at hix
   have HJA : Hid (seA (i + 1) = seA i ++ [⟨10 * ((i : Int) + 1), q1, 0, 0⟩]) := Lib.hid (by rw [seA_s, hq1])
   have HJL : Hid (seL (i + 1) = seL i ++ [⟨10 * ((i : Int) + 1), q2, -25567⟩]) := Lib.hid (by rw [seL_s, hq2])
   clear hq1 hq2
   have hw1 : IntKind.i64.wrap ((i : Int) + 1) = (i : Int) + 1 := by rw [IntKind.wrap_i64]; omega
   have hw10 : IntKind.i64.wrap (10 * ((i : Int) + 1)) = 10 * ((i : Int) + 1) := by rw [IntKind.wrap_i64]; omega
   have HSA : Hid ((seA i).length = i) := Lib.hid (by simp [seA])
   have HSL : Hid ((seL i).length = i) := Lib.hid (by simp [seL])
   have HIL : Hid (i < 14) := Lib.hid hlt
   obtain ⟨A9, c9, hva, -, -⟩ := HA.out.reads
   obtain ⟨B9, d9, hvl, -, -⟩ := HV.out.reads
   rw [HSA.out] at hva
   rw [HSL.out] at hvl
   obtain ⟨s1, hs1⟩ : ∃ s1, wr.heap.size = s1 := ⟨_, rfl⟩
   have HS1 := Lib.hid hs1
   go_upto_region 7 with (refine wpList_store_wh rfl 84 _ _ rfl s1 (by first | rfl | (rw [← HS1.out]; rfl)) 84 [.int .i64 0, .int .i64 0] [.int .i64 q1, .int .i64 q2] rfl (by rw [← HS1.out]; exact Wh.new wr 84 [.int .i64 0, .int .i64 0]) rfl (by kernel_rfl) (by kernel_rfl) ?_; intro w5 hr5 ho5 hz5; have HT5 := Lib.hid hr5.out; have hb5 : Below wr.heap.size wr w5 := only_new (by rw [HS1.out]; exact ho5.out); have HG5 := Lib.hid (HG.out.up hb5); have HA5 := Lib.hid (HA.out.up hb5); have HV5 := Lib.hid (HV.out.up hb5); have HB5 := Lib.hid (HB.out.trans (hb5.mono (by have := HW1.out; omega))); have HW5 : Hid (s0 + 3 ≤ w5.heap.size) := Lib.hid (Nat.le_trans HW1.out hb5.size); have HS5 : Hid (s0 + 3 ≤ s1 ∧ s1 < w5.heap.size) := Lib.hid ⟨by rw [← HS1.out]; exact HW1.out, hr5.out.lt⟩; clear hr5 ho5 hz5 hb5)
   have hx8 : Below w5.heap.size w5 (w5.alloc (.cells #[.int .i64 (10 * ((i : Int) + 1)), .int .i64 q1, .int .i64 0, .int .i64 0] 71)) := below_alloc_new _
   have HX8 := Lib.hid hx8
   have HR8 : Hid (RowAt lyA (w5.alloc (.cells #[.int .i64 (10 * ((i : Int) + 1)), .int .i64 q1, .int .i64 0, .int .i64 0] 71)) (some ⟨w5.heap.size, 0, none⟩) [⟨10 * ((i : Int) + 1), q1, 0, 0⟩]) := Lib.hid (row_one (R := lyA) (x := ⟨10 * ((i : Int) + 1), q1, 0, 0⟩) (Wh.new w5 71 [.int .i64 (10 * ((i : Int) + 1)), .int .i64 q1, .int .i64 0, .int .i64 0]))
   have HA8 := Lib.hid (HA5.out.up hx8)
   have c2 := HG5.out.at 2 _ rfl
   have d0 := HT5.out.at 0 _ rfl
   rw [hva] at c2
   rw [hva] at HA8 HA HA5 HG HG5
   clear hx8
   go_upto_region 8 with (at_builtin; refine wpList_app_row (R := lyA) rfl (.tmp 40) (.tmp 45) 24 rfl i0 _ 32 Try.underlying24 hi hz1 hz2 hz3 (by omega) rfl rfl HA8.out (some ⟨w5.heap.size, 0, none⟩) 1 1 [⟨10 * ((i : Int) + 1), q1, 0, 0⟩] rfl rfl HR8.out (by have := HSA.out; have := HIL.out; simp; omega) (by have := HW5.out; have := HX8.out.size; omega) ?_; intro v6 w6 hr6 hg6 hn6; obtain ⟨A6, c6, e6, -, -⟩ := hr6.out.reads; rw [show (seA i ++ [(⟨10 * ((i : Int) + 1), q1, 0, 0⟩ : Acc)]).length = i + 1 from by rw [List.length_append, HSA.out]; rfl] at e6; subst e6; have HR6 := Lib.hid hr6.out; have HG6 := Lib.hid hg6.out; have HN6 := Lib.hid hn6.out; clear hr6 hg6 hn6; have hk6 : Wh 50 w6 (s0 + 2) [.string nm, .string cu, .slice A9 i c9, vl, .bool jt] := (HG5.out.up HX8.out).same (HG6.out.block _ (by have := HX8.out.size; have := HW5.out; omega) (fun e => by have := (HA8.out.lt e.symm).1; omega)); have HK6 := Lib.hid hk6; have c2_ := hk6.at 2 _ rfl; have z2_ := hk6.frozen 2; clear hk6)
   obtain ⟨w7, hw7⟩ : ∃ w7, w6.setCell ⟨s0 + 2, 2, none⟩ (.slice A6 (i + 1) c6) = w7 := ⟨_, rfl⟩
   have HO7 : Hid (Only (fun k => k = s0 + 2) w6 w7) := Lib.hid (by rw [← hw7]; exact Only.setCell (S := fun k => k = s0 + 2) _ (a := ⟨s0 + 2, 2, none⟩) rfl _)
   have HG7 : Hid (Wh 50 w7 (s0 + 2) [.string nm, .string cu, .slice A6 (i + 1) c6, vl, .bool jt]) := Lib.hid (by rw [← hw7]; exact HK6.out.set 2 (.slice A6 (i + 1) c6))
   have HO6 : Hid (Only (fun k => (Value.slice A9 i c9).ownBlock = some k) w5 w6) := Lib.hid ((Only.of HX8.out).trans (Only.grown HG6.out fun k hk => hk))
   have HA7 : Hid (OwnR lyA 71 w7 (s0 + 3) (.slice A6 (i + 1) c6) (seA (i + 1))) := Lib.hid (by rw [HJA.out]; exact HR6.out.blk fun g hg => HO7.out.blk g (HR6.out.lt hg).2 (by have := (HR6.out.lt hg).1; show ¬ g = s0 + 2; omega))
   have HV7 : Hid (OwnR lyL 80 w7 (s0 + 3) vl (seL i)) := Lib.hid ((HV5.out.blk fun g hg => HO6.out.blk g (HV5.out.lt hg).2 (fun e => own_apart HA5.out HV5.out (by decide) e hg)).blk fun g hg => HO7.out.blk g (Nat.lt_of_lt_of_le (HV5.out.lt hg).2 HO6.out.size) (by have := (HV5.out.lt hg).1; show ¬ g = s0 + 2; omega))
   have HT7 : Hid (Wh 84 w7 s1 [.int .i64 q1, .int .i64 q2]) := Lib.hid ((HT5.out.only HO6.out (fun e => by have := (HA.out.lt e).2; have := HS1.out; omega)).only HO7.out (by show ¬ s1 = s0 + 2; have := HS5.out; omega))
   have HB7 : Hid (Below (s0 + 2) w4 w7) := Lib.hid ((HB5.out.trans (HO6.out.below (B := s0 + 2) (fun k hk => by have := (HA5.out.lt hk).1; omega) (by have := HW5.out; omega))).trans (HO7.out.below (B := s0 + 2) (fun k hk => Nat.le_of_eq hk.symm) (by have := HO6.out.size; have := HW5.out; omega)))
   have HW7 : Hid (s0 + 3 ≤ w7.heap.size) := Lib.hid (Nat.le_trans HW5.out (Nat.le_trans HO6.out.size HO7.out.size))
   rw [hw7]
   clear hw7 HG5 HA5 HV5 HT5 HB5 HW5 HO6 HO7 HK6 HR6 HG6 HN6 HA8 HR8 HX8 HA HG HV HB HW1 c2 c2_ z2_ d0
   have hx8 : Below w7.heap.size w7 (w7.alloc (.cells #[.int .i64 (10 * ((i : Int) + 1)), .int .i64 q2, .int .i64 (-25567)] 80)) := below_alloc_new _
   have HX8 := Lib.hid hx8
   have HR8 : Hid (RowAt lyL (w7.alloc (.cells #[.int .i64 (10 * ((i : Int) + 1)), .int .i64 q2, .int .i64 (-25567)] 80)) (some ⟨w7.heap.size, 0, none⟩) [⟨10 * ((i : Int) + 1), q2, -25567⟩]) := Lib.hid (row_one (R := lyL) (x := ⟨10 * ((i : Int) + 1), q2, -25567⟩) (Wh.new w7 80 [.int .i64 (10 * ((i : Int) + 1)), .int .i64 q2, .int .i64 (-25567)]))
   have HV8 := Lib.hid (HV7.out.up hx8)
   have c3 := HG7.out.at 3 _ rfl
   have d1 := HT7.out.at 1 _ rfl
   rw [hvl] at c3
   rw [hvl] at HV8 HV7 HG7
   clear hx8
   go_upto_region 9 with (at_builtin; refine wpList_app_row (R := lyL) rfl (.tmp 49) (.tmp 54) 48 rfl i1 _ 24 Try.underlying48 hj hy1 hy2 hy3 (by omega) rfl rfl HV8.out (some ⟨w7.heap.size, 0, none⟩) 1 1 [⟨10 * ((i : Int) + 1), q2, -25567⟩] rfl rfl HR8.out (by have := HSL.out; have := HIL.out; simp; omega) (by have := HW7.out; have := HX8.out.size; omega) ?_; intro v8 w8 hr8 hg8 hn8; obtain ⟨A8, c8, e8, -, -⟩ := hr8.out.reads; rw [show (seL i ++ [(⟨10 * ((i : Int) + 1), q2, -25567⟩ : Lnk)]).length = i + 1 from by rw [List.length_append, HSL.out]; rfl] at e8; subst e8; have HR9 := Lib.hid hr8.out; have HG8 := Lib.hid hg8.out; clear hr8 hg8 hn8; have hk8 : Wh 50 w8 (s0 + 2) [.string nm, .string cu, .slice A6 (i + 1) c6, .slice B9 i d9, .bool jt] := (HG7.out.up HX8.out).same (HG8.out.block _ (by have := HX8.out.size; have := HW7.out; omega) (fun e => by have := (HV8.out.lt e.symm).1; omega)); have HK8 := Lib.hid hk8; have c3_ := hk8.at 3 _ rfl; have z3_ := hk8.frozen 3; clear hk8)
   obtain ⟨w9, hw9⟩ : ∃ w9, w8.setCell ⟨s0 + 2, 3, none⟩ (.slice A8 (i + 1) c8) = w9 := ⟨_, rfl⟩
   have HO9 : Hid (Only (fun k => k = s0 + 2) w8 w9) := Lib.hid (by rw [← hw9]; exact Only.setCell (S := fun k => k = s0 + 2) _ (a := ⟨s0 + 2, 3, none⟩) rfl _)
   have HG9 : Hid (Wh 50 w9 (s0 + 2) [.string nm, .string cu, .slice A6 (i + 1) c6, .slice A8 (i + 1) c8, .bool jt]) := Lib.hid (by rw [← hw9]; exact HK8.out.set 3 (.slice A8 (i + 1) c8))
   have HO8 : Hid (Only (fun k => (Value.slice B9 i d9).ownBlock = some k) w7 w8) := Lib.hid ((Only.of HX8.out).trans (Only.grown HG8.out fun k hk => hk))
   have HV9 : Hid (OwnR lyL 80 w9 (s0 + 3) (.slice A8 (i + 1) c8) (seL (i + 1))) := Lib.hid (by rw [HJL.out]; exact HR9.out.blk fun g hg => HO9.out.blk g (HR9.out.lt hg).2 (by have := (HR9.out.lt hg).1; show ¬ g = s0 + 2; omega))
   have HA9 : Hid (OwnR lyA 71 w9 (s0 + 3) (.slice A6 (i + 1) c6) (seA (i + 1))) := Lib.hid ((HA7.out.blk fun g hg => HO8.out.blk g (HA7.out.lt hg).2 (fun e => own_apart HA7.out HV7.out (by decide) hg e)).blk fun g hg => HO9.out.blk g (Nat.lt_of_lt_of_le (HA7.out.lt hg).2 HO8.out.size) (by have := (HA7.out.lt hg).1; show ¬ g = s0 + 2; omega))
   have HB9 : Hid (Below (s0 + 2) w4 w9) := Lib.hid ((HB7.out.trans (HO8.out.below (B := s0 + 2) (fun k hk => by have := (HV7.out.lt hk).1; omega) (by have := HW7.out; omega))).trans (HO9.out.below (B := s0 + 2) (fun k hk => Nat.le_of_eq hk.symm) (by have := HO8.out.size; have := HW7.out; omega)))
   have HW9 : Hid (s0 + 3 ≤ w9.heap.size) := Lib.hid (Nat.le_trans HW7.out (Nat.le_trans HO8.out.size HO9.out.size))
   rw [hw9]
   clear hw9 HG7 HA7 HV7 HT7 HB7 HW7 HO8 HO9 HK8 HR9 HG8 HV8 HR8 HX8 c3 c3_ z3_ d1
   go_wp2_with fail
   go_roundg (14 - (i + 1))
   case measure => omega
   case rel => exact ⟨i + 1, by go_num, by omega, by omega, ⟨_, _, HG9, HA9, HV9⟩, HB9, HW9⟩
  ·obtain rfl : i = 14 := by omega
   obtain ⟨A, c, e1, -, -⟩ := HA.out.reads
   obtain ⟨B, d, e2, -, -⟩ := HV.out.reads
   rw [show (seA 14).length = 14 from rfl] at e1
   rw [show (seL 14).length = 14 from rfl] at e2
   subst e1 e2
   have HL : Hid ((Instr.loadAt 50 (.pointer (some ⟨s0 + 2, 0, none⟩))).run Try.prog wr = .ok (.agg #[.string nm, .string cu, .slice A 14 c, .slice B 14 d, .bool jt]) wr) := Lib.hid (HG.out.rg.load 0 50 [.string nm, .string cu, .slice A 14 c, .slice B 14 d, .bool jt] rfl _ Try.underlying50 rfl (by kernel_rfl))
   have HZ9 : Hid (Wh 50 wr s0 [.string ⟨#[]⟩, .string ⟨#[]⟩, .slice none 0 0, .slice none 0 0, .bool false]) := Lib.hid (HZ4.out.same (HB.out.block s0 (by omega)))
   have HM1 : True := trivial
   go_wp2_with (first
    | (clear HM1; refine wpList_load_is rfl 50 _ rfl (.pointer (some ⟨s0 + 2, 0, none⟩)) rfl (.agg #[.string nm, .string cu, .slice A 14 c, .slice B 14 d, .bool jt]) HL.out ?_)
    | (refine wpList_store_wh rfl 50 _ _ rfl s0 (by first | rfl | (rw [← HS0.out]; rfl)) 50 [.string ⟨#[]⟩, .string ⟨#[]⟩, .slice none 0 0, .slice none 0 0, .bool false] [.string nm, .string cu, .slice A 14 c, .slice B 14 d, .bool jt] rfl HZ9.out rfl (by kernel_rfl) (by kernel_rfl) ?_; intro W8 hr8 ho8 hz8))
   refine bodyPost_ret (v := .agg #[.string nm, .string cu, .slice A 14 c, .slice B 14 d, .bool jt]) (results_cell_mid Try.results21 _ _ s0 [.string nm, .string cu, .slice A 14 c, .slice B 14 d, .bool jt] _ (by first | rfl | (rw [← HS0.out]; rfl)) hr8.out.range Try.underlying50 rfl (by kernel_rfl)) rfl ⟨⟨⟨A, c, B, d⟩, rfl, ?_, ?_⟩, ?_⟩
   ·exact (HA.out.blk fun g hg => ho8.out.blk g (HA.out.lt hg).2 (by have := (HA.out.lt hg).1; show ¬ g = s0; omega)).low (by have := HS0.out; omega)
   ·exact (HV.out.blk fun g hg => ho8.out.blk g (HV.out.lt hg).2 (by have := (HV.out.lt hg).1; show ¬ g = s0; omega)).low (by have := HS0.out; omega)
   ·have h9 := (HB4.out.trans (HB.out.mono (by omega))).trans (ho8.out.below (B := s0) (fun k hk => Nat.le_of_eq hk.symm) (by have := HW1.out; omega))
    rw [HS0.out]
    exact h9
set_option maxRecDepth 100000 in
set_option maxHeartbeats 12800000 in
theorem gsgrp_any (w : World) : Calls Try.prog 10 #[] w fun e w' => (∃ A c E p0 p1 p2 p3, e = .returned (grpV (smpG A c E)) ∧ GrK w' (smpG A c E) smpL (smpEs p0 p1 p2 p3)) ∧ Below w.heap.size w w' := by
 obtain ⟨s0, hs0⟩ : ∃ s0, w.heap.size = s0 := ⟨_, rfl⟩
 obtain ⟨w2, hw2⟩ : ∃ w2, w.alloc (.cells #[.string ⟨#[]⟩, .int .i64 0, .int .i64 0, .int .i64 0, .slice none 0 0, .int .i64 0, .int .i64 0, .int .i64 0, .int .i64 0, .int .i64 0, .int .i64 0, .int .i64 0, .int .i64 0, .int .i64 0, .int .i64 0, .int .i64 0, .int .i64 0, .int .i64 0, .int .i64 0, .int .i64 0, .slice none 0 0] 29) = w2 := ⟨_, rfl⟩
 have HZ : Hid (Wh 29 w2 s0 [.string ⟨#[]⟩, .int .i64 0, .int .i64 0, .int .i64 0, .slice none 0 0, .int .i64 0, .int .i64 0, .int .i64 0, .int .i64 0, .int .i64 0, .int .i64 0, .int .i64 0, .int .i64 0, .int .i64 0, .int .i64 0, .int .i64 0, .int .i64 0, .int .i64 0, .int .i64 0, .int .i64 0, .slice none 0 0]) := Lib.hid (by rw [← hw2, ← hs0]; exact Wh.new w 29 [.string ⟨#[]⟩, .int .i64 0, .int .i64 0, .int .i64 0, .slice none 0 0, .int .i64 0, .int .i64 0, .int .i64 0, .int .i64 0, .int .i64 0, .int .i64 0, .int .i64 0, .int .i64 0, .int .i64 0, .int .i64 0, .int .i64 0, .int .i64 0, .int .i64 0, .int .i64 0, .int .i64 0, .slice none 0 0])
 have HB2 : Hid (Below s0 w w2) := Lib.hid (by rw [← hw2, ← hs0]; exact below_alloc_new _)
 have HS2 : Hid (w2.heap.size = s0 + 1) := Lib.hid (by rw [← hw2, ← hs0]; simp)
 have HS0 := Lib.hid hs0
 have HM1 : True := trivial
 have HM2 : True := trivial
 have HM3 : True := trivial
 have HM4 : True := trivial
 have HM5 : True := trivial
 go_enter Try.func10, Try.ntmps10
 go_wp2_with (first
  | (go_at_call 19; refine (gschart_any _).mono ?_; rintro e w3 ⟨rfl, hw3, hb3⟩; have HW3 := Lib.hid hw3; have HB3 := Lib.hid hb3; clear hw3 hb3; obtain ⟨g3, hg3⟩ : ∃ g3, w2.heap.size = g3 := ⟨_, rfl⟩; have HG3 := Lib.hid hg3; rw [hg3] at HW3)
  | (go_at_call 20; refine (gsrol_any _).mono ?_; rintro e w4 ⟨rfl, hb4⟩; have HW4 := Lib.hid (HW3.out.up hb4); have HB4 := Lib.hid (HB3.out.trans (hb4.mono HB3.out.size)); clear hb4 HW3 HB3)
  | (go_at_call 21; first
    | (clear HM1; refine (gsent_any _ _ _ _).mono ?_; rintro e w6 ⟨⟨p0, rfl, hp⟩, hb⟩; have HP0 : Hid (EOw w4.heap.size p0 w6) := Lib.hid hp; have HC6 := Lib.hid hb; clear hp hb)
    | (clear HM2; refine (gsent_any _ _ _ _).mono ?_; rintro e w7 ⟨⟨p1, rfl, hp⟩, hb⟩; have HP1 : Hid (EOw w4.heap.size p1 w7) := Lib.hid (EOw.low hp HC6.out.size); have HQ0 := Lib.hid (HP0.out.up hb); have HC7 := Lib.hid (HC6.out.trans (hb.mono HC6.out.size)); clear hp hb HC6 HP0)
    | (clear HM3; refine (gsent_any _ _ _ _).mono ?_; rintro e w8 ⟨⟨p2, rfl, hp⟩, hb⟩; have HP2 : Hid (EOw w4.heap.size p2 w8) := Lib.hid (EOw.low hp HC7.out.size); have HQ1 := Lib.hid (HP1.out.up hb); have HR0 := Lib.hid (HQ0.out.up hb); have HC8 := Lib.hid (HC7.out.trans (hb.mono HC7.out.size)); clear hp hb HC7 HP1 HQ0)
    | (clear HM4; refine (gsent_any _ _ _ _).mono ?_; rintro e w9 ⟨⟨p3, rfl, hp⟩, hb⟩; have HP3 : Hid (EOw w4.heap.size p3 w9) := Lib.hid (EOw.low hp HC8.out.size); have HQ2 := Lib.hid (HP2.out.up hb); have HR1 := Lib.hid (HQ1.out.up hb); have HT0 := Lib.hid (HR0.out.up hb); have HC9 := Lib.hid (HC8.out.trans (hb.mono HC8.out.size)); clear hp hb HC8 HP2 HQ1 HR0; obtain ⟨gE, hgE⟩ : ∃ gE, w9.heap.size = gE := ⟨_, rfl⟩; have HGE := Lib.hid hgE; obtain ⟨w10, hw10⟩ : ∃ w10, w9.alloc (.cells #[.string ⟨#[112, 97, 114, 101, 110, 116]⟩, .string ⟨#[69, 85, 82]⟩, .slice p0.A 14 p0.c, .slice p0.B 14 p0.d, .bool false, .string ⟨#[110, 111, 114, 116, 104]⟩, .string ⟨#[69, 85, 82]⟩, .slice p1.A 14 p1.c, .slice p1.B 14 p1.d, .bool false, .string ⟨#[119, 101, 115, 116]⟩, .string ⟨#[85, 83, 68]⟩, .slice p2.A 14 p2.c, .slice p2.B 14 p2.d, .bool false, .string ⟨#[106, 111, 105, 110, 116]⟩, .string ⟨#[85, 83, 68]⟩, .slice p3.A 14 p3.c, .slice p3.B 14 p3.d, .bool true] 50) = w10 := ⟨_, rfl⟩; have HE10 : Hid (Wh 50 w10 gE [.string ⟨#[112, 97, 114, 101, 110, 116]⟩, .string ⟨#[69, 85, 82]⟩, .slice p0.A 14 p0.c, .slice p0.B 14 p0.d, .bool false, .string ⟨#[110, 111, 114, 116, 104]⟩, .string ⟨#[69, 85, 82]⟩, .slice p1.A 14 p1.c, .slice p1.B 14 p1.d, .bool false, .string ⟨#[119, 101, 115, 116]⟩, .string ⟨#[85, 83, 68]⟩, .slice p2.A 14 p2.c, .slice p2.B 14 p2.d, .bool false, .string ⟨#[106, 111, 105, 110, 116]⟩, .string ⟨#[85, 83, 68]⟩, .slice p3.A 14 p3.c, .slice p3.B 14 p3.d, .bool true]) := Lib.hid (by rw [← hw10, ← hgE]; exact Wh.new w9 50 [.string ⟨#[112, 97, 114, 101, 110, 116]⟩, .string ⟨#[69, 85, 82]⟩, .slice p0.A 14 p0.c, .slice p0.B 14 p0.d, .bool false, .string ⟨#[110, 111, 114, 116, 104]⟩, .string ⟨#[69, 85, 82]⟩, .slice p1.A 14 p1.c, .slice p1.B 14 p1.d, .bool false, .string ⟨#[119, 101, 115, 116]⟩, .string ⟨#[85, 83, 68]⟩, .slice p2.A 14 p2.c, .slice p2.B 14 p2.d, .bool false, .string ⟨#[106, 111, 105, 110, 116]⟩, .string ⟨#[85, 83, 68]⟩, .slice p3.A 14 p3.c, .slice p3.B 14 p3.d, .bool true]); have HB10 : Hid (Below w9.heap.size w9 w10) := Lib.hid (by rw [← hw10]; exact below_alloc_new _)))
  | (refine wpList_build_is rfl 29 _ rfl [(0, .string ⟨#[69, 85, 82]⟩), (1, .agg #[.int .i64 2026, .int .i64 1, .int .i64 36]), (2, .slice (some ⟨g3, 0, none⟩) 26 26), (3, .agg #[.int .i64 1500, .int .i64 1600, .int .i64 1700, .int .i64 1200, .int .i64 3100, .int .i64 3200, .int .i64 3300, .int .i64 3400, .int .i64 3500, .int .i64 4500, .int .i64 4600, .int .i64 4700, .int .i64 5500, .int .i64 5600, .int .i64 5700]), (4, .slice (some ⟨gE, 0, none⟩) 4 4)] rfl (.agg #[.string ⟨#[69, 85, 82]⟩, .int .i64 2026, .int .i64 1, .int .i64 36, .slice (some ⟨g3, 0, none⟩) 26 26, .int .i64 1500, .int .i64 1600, .int .i64 1700, .int .i64 1200, .int .i64 3100, .int .i64 3200, .int .i64 3300, .int .i64 3400, .int .i64 3500, .int .i64 4500, .int .i64 4600, .int .i64 4700, .int .i64 5500, .int .i64 5600, .int .i64 5700, .slice (some ⟨gE, 0, none⟩) 4 4]) (run_build _ 29 _ _ (by kernel_rfl)) ?_)
  | (refine wpList_store_wh rfl 29 _ _ rfl s0 rfl 29 [.string ⟨#[]⟩, .int .i64 0, .int .i64 0, .int .i64 0, .slice none 0 0, .int .i64 0, .int .i64 0, .int .i64 0, .int .i64 0, .int .i64 0, .int .i64 0, .int .i64 0, .int .i64 0, .int .i64 0, .int .i64 0, .int .i64 0, .int .i64 0, .int .i64 0, .int .i64 0, .int .i64 0, .slice none 0 0] [.string ⟨#[69, 85, 82]⟩, .int .i64 2026, .int .i64 1, .int .i64 36, .slice (some ⟨g3, 0, none⟩) 26 26, .int .i64 1500, .int .i64 1600, .int .i64 1700, .int .i64 1200, .int .i64 3100, .int .i64 3200, .int .i64 3300, .int .i64 3400, .int .i64 3500, .int .i64 4500, .int .i64 4600, .int .i64 4700, .int .i64 5500, .int .i64 5600, .int .i64 5700, .slice (some ⟨gE, 0, none⟩) 4 4] rfl ((HZ.out.up HB4.out).up HC9.out |>.up HB10.out) rfl (by kernel_rfl) (by kernel_rfl) ?_; intro w11 hr11 ho11 hz11))
 refine bodyPost_ret (v := .agg #[.string ⟨#[69, 85, 82]⟩, .int .i64 2026, .int .i64 1, .int .i64 36, .slice (some ⟨g3, 0, none⟩) 26 26, .int .i64 1500, .int .i64 1600, .int .i64 1700, .int .i64 1200, .int .i64 3100, .int .i64 3200, .int .i64 3300, .int .i64 3400, .int .i64 3500, .int .i64 4500, .int .i64 4600, .int .i64 4700, .int .i64 5500, .int .i64 5600, .int .i64 5700, .slice (some ⟨gE, 0, none⟩) 4 4]) (results_cell_mid Try.results10 _ _ s0 [.string ⟨#[69, 85, 82]⟩, .int .i64 2026, .int .i64 1, .int .i64 36, .slice (some ⟨g3, 0, none⟩) 26 26, .int .i64 1500, .int .i64 1600, .int .i64 1700, .int .i64 1200, .int .i64 3100, .int .i64 3200, .int .i64 3300, .int .i64 3400, .int .i64 3500, .int .i64 4500, .int .i64 4600, .int .i64 4700, .int .i64 5500, .int .i64 5600, .int .i64 5700, .slice (some ⟨gE, 0, none⟩) 4 4] _ rfl hr11.out.range Try.underlying29 rfl (by kernel_rfl)) rfl ⟨⟨some ⟨g3, 0, none⟩, 26, some ⟨gE, 0, none⟩, p0, p1, p2, p3, rfl, ?_⟩, ?_⟩
 ·have hS2 := HS2.out
  have hG3 := HG3.out
  have h4s := HB4.out.size
  have key : ∀ p, EOw w4.heap.size p w9 → EOw w4.heap.size p w11 := fun p h => by
   have h1 := h.up HB10.out
   have k : ∀ j, w4.heap.size ≤ j → j < w10.heap.size → w11.heap[j]? = w10.heap[j]? := fun j h1 h2 => ho11.out.blk j h2 (by show ¬ j = s0; omega)
   exact ⟨h1.1.blk fun j hj => k j (h1.1.lt hj).1 (h1.1.lt hj).2, h1.2.blk fun j hj => k j (h1.2.lt hj).1 (h1.2.lt hj).2⟩
  have hE : Wh 50 w11 gE [.string ⟨#[112, 97, 114, 101, 110, 116]⟩, .string ⟨#[69, 85, 82]⟩, .slice p0.A 14 p0.c, .slice p0.B 14 p0.d, .bool false, .string ⟨#[110, 111, 114, 116, 104]⟩, .string ⟨#[69, 85, 82]⟩, .slice p1.A 14 p1.c, .slice p1.B 14 p1.d, .bool false, .string ⟨#[119, 101, 115, 116]⟩, .string ⟨#[85, 83, 68]⟩, .slice p2.A 14 p2.c, .slice p2.B 14 p2.d, .bool false, .string ⟨#[106, 111, 105, 110, 116]⟩, .string ⟨#[85, 83, 68]⟩, .slice p3.A 14 p3.c, .slice p3.B 14 p3.d, .bool true] := HE10.out.only ho11.out (by show ¬ gE = s0; have := HGE.out; have := HC9.out.size; omega)
  have hA : Wh 71 w11 g3 (lyA.all smpL) := ((HW4.out.up HC9.out).up HB10.out).only ho11.out (by show ¬ g3 = s0; omega)
  refine ⟨smp_len, rfl, acc_row (fun _ => ⟨g3, 0, rfl, hA.lt, hA.range⟩), ents_row (fun _ => ⟨gE, 0, rfl, hE.lt, hE.range⟩), fun e he => ?_⟩
  simp [smpEs] at he
  rcases he with rfl | rfl | rfl | rfl
  ·exact (key _ HT0.out).k
  ·exact (key _ HR1.out).k
  ·exact (key _ HQ2.out).k
  ·exact (key _ HP3.out).k
 ·have h4s := HB4.out.size
  have h9s := HC9.out.size
  have hS2 := HS2.out
  have h1 : Below s0 w4 w9 := HC9.out.mono (by omega)
  have h2 : Below s0 w9 w10 := HB10.out.mono (by omega)
  have h3 : Below s0 w10 w11 := ho11.out.below (fun k hk => Nat.le_of_eq hk.symm) (by have := HB10.out.size; omega)
  have h4 : Below s0 w2 w4 := HB4.out.mono (by omega)
  have h9 := HB2.out.trans (h4.trans (h1.trans (h2.trans h3)))
  rw [HS0.out]
  exact h9
def stpC (s : Stp) : List Value := [.int .i64 s.e, .int .i64 s.p, .bool s.u]
abbrev stpV (s : Stp) : Value := .agg #[.int .i64 s.e, .int .i64 s.p, .bool s.u]
def lyS : Lay Stp := ⟨stpC, 3, fun _ => rfl, fun a v hv => by simp [stpC] at hv; rcases hv with rfl | rfl | rfl <;> rfl, by decide⟩
def okStp (s : Stp) : Prop := okK s.k
open Go.RowKit Go.Maps
section
variable {w w' : World} {j : LD} {z : Nat} {K : LkL}
set_option maxRecDepth 100000 in
set_option maxHeartbeats 1600000 in
theorem do_any (s : Stp) (h : LK w j z K) (ho : okStp s) (hz : z ≤ 1000) : Calls Try.prog 15 #[j.p, stpV s] w fun r w' => r = .returned (.int .i64 (stpE j.n j.k K s)) ∧ LK w' j (z + 1) (stpL j.n j.k K s) ∧ Only (fun i => i = j.bm) w w' := by
 obtain ⟨s0, hs0⟩ : ∃ s0, w.heap.size = s0 := ⟨_, rfl⟩
 obtain ⟨w2, hw2⟩ : ∃ w2, w.alloc (.cells #[.int .i64 s.e, .int .i64 s.p, .bool s.u] 37) = w2 := ⟨_, rfl⟩
 have HXB : Wh 37 w2 s0 (stpC s) := by rw [← hw2, ← hs0]; exact Wh.new w 37 (stpC s)
 have HB2 : Hid (Below w.heap.size w w2) := Lib.hid (by rw [← hw2]; exact below_alloc_new _)
 have HS0 := Lib.hid hs0
 have p0 := HXB.at 0 _ rfl
 have p1 := HXB.at 1 _ rfl
 have p2 := HXB.at 2 _ rfl
 have HLK := Lib.hid (h.up HB2.out)
 have HA := Lib.hid (lock_any s.e s.p HLK.out ho hz)
 have HU := Lib.hid (unlock_any s.e s.p HLK.out ho)
 obtain ⟨e, p, u⟩ := s
 unfold stpE stpL Stp.k
 dsimp only at *
 clear h ho HXB
 cases u
 ·simp only [Bool.false_eq_true, if_false]
  go_enter Try.func15, Try.ntmps15
  go_wp2_with (go_at_call 11; refine HA.out.mono ?_; rintro r w3 ⟨rfl, h3, o3⟩; have H3 := Lib.hid h3; have O3 := Lib.hid o3; clear h3 o3)
  go_ret
  exact ⟨rfl, H3.out, (Only.of HB2.out).trans O3.out⟩
 ·simp only [if_true]
  go_enter Try.func15, Try.ntmps15
  go_wp2_with (go_at_call 32; refine HU.out.mono ?_; rintro r w3 ⟨rfl, h3, o3⟩; have H3 := Lib.hid h3; have O3 := Lib.hid o3; clear h3 o3)
  go_ret
  exact ⟨rfl, H3.out.mono (Nat.le_succ _), (Only.of HB2.out).trans O3.out⟩
end
def LFil (g : Grp) (S : List Stp) (B : Nat) (e : Ending) (w' : World) : Prop := ∃ j : LD, e = .returned j.p ∧ (j.n = (g.m : Int) ∧ j.y = g.cy ∧ j.m = g.cm ∧ j.k = g.cp) ∧ LK w' j S.length (stpsL (g.m : Int) g.cp S) ∧ B ≤ j.b ∧ B ≤ j.bm
set_option maxRecDepth 100000 in
set_option maxHeartbeats 6400000 in
theorem filled_any (g : Grp) (L : List Acc) (G : List Ent) (A : Option Addr) (c : Nat) (S : List Stp) (w : World) (hk : GrK w g L G) (hs : Sm g G) (hw : GrW g L G) (hv : grpP g L G = true) (hS : RowAt lyS w A S) (hok : ∀ s ∈ S, okStp s) (hl : S.length ≤ 100) : Calls Try.prog 7 #[grpV g, .slice A S.length c] w fun e w' => LFil g S w.heap.size e w' ∧ Below w.heap.size w w' := by
 have HN := Lib.hid (fun W (h : GrK W g L G) => lnew_any g L G W h hs hw)
 obtain ⟨n, hn⟩ : ∃ n, S.length = n := ⟨_, rfl⟩
 rw [hn] at hl ⊢
 obtain ⟨s0, hs0⟩ : ∃ s0, w.heap.size = s0 := ⟨_, rfl⟩
 obtain ⟨w2, hw2⟩ : ∃ w2, w.alloc (.cells #[.string g.cur, .int .i64 g.cy, .int .i64 g.cm, .int .i64 g.cp, .slice g.A g.n g.c, .int .i64 g.r0, .int .i64 g.r1, .int .i64 g.r2, .int .i64 g.r3, .int .i64 g.r4, .int .i64 g.r5, .int .i64 g.r6, .int .i64 g.r7, .int .i64 g.r8, .int .i64 g.r9, .int .i64 g.r10, .int .i64 g.r11, .int .i64 g.r12, .int .i64 g.r13, .int .i64 g.r14, .slice g.E g.m g.d] 29) = w2 := ⟨_, rfl⟩
 have HGB : Hid (Wh 29 w2 s0 (grpC g)) := Lib.hid (by rw [← hw2, ← hs0]; exact Wh.new w 29 (grpC g))
 have HB2 : Hid (Below s0 w w2) := Lib.hid (by rw [← hw2, ← hs0]; exact below_alloc_new _)
 have HS2 : Hid (w2.heap.size = s0 + 1) := Lib.hid (by rw [← hw2, ← hs0]; simp)
 have HK2 := Lib.hid (hk.up (HB2.out.mono (Nat.le_of_eq hs0)))
 have HST := Lib.hid (hS.up (HB2.out.mono (Nat.le_of_eq hs0)))
 have HS0 := Lib.hid hs0
 have HV := Lib.hid hv
 have HOK := Lib.hid hok
 have HNL := Lib.hid hn
 have HL := Lib.hid hl
 obtain ⟨GV, hGV⟩ : ∃ GV, GV = grpV g := ⟨_, rfl⟩
 have HLG : Hid (∀ w9, Below w2.heap.size w2 w9 → (Instr.loadAt 29 (.pointer (some ⟨s0, 0, none⟩))).run Try.prog w9 = .ok GV w9) := Lib.hid (fun w9 h9 => by rw [hGV, grpV_is]; exact (HGB.out.up h9).rg.load 0 29 (grpC g) rfl _ Try.underlying29 rfl (by kernel_rfl))
 rw [← hGV] at HN
 clear hk hGV hs hw hv hS hok hn
 have HM1 : True := trivial
 go_enter Try.func7, Try.ntmps7
 go_wp2_with (first
  | (clear HM1; refine wpList_load_is rfl 29 _ rfl (.pointer (some ⟨s0, 0, none⟩)) rfl GV (HLG.out _ (Below.refl _ _)) ?_)
  | (go_at_call 9; refine (HN.out _ HK2.out).mono ?_; rintro e w3 ⟨hq, hb⟩; unfold LNewQ at hq; rw [HV.out, if_pos rfl] at hq; obtain ⟨b, bm, rfl, hj, h1, h2⟩ := hq; have HJ3 := Lib.hid hj; have HB3 := Lib.hid hb; have HBB := Lib.hid h1; have HBM := Lib.hid h2; clear hj hb h1 h2))
 obtain ⟨jj, hjj⟩ : ∃ jj : LD, jj = ⟨b, (g.m : Int), g.cy, g.cm, g.cp, bm⟩ := ⟨_, rfl⟩
 have HJJ := Lib.hid hjj
 have HEQ : Hid (jj.n = (g.m : Int) ∧ jj.y = g.cy ∧ jj.m = g.cm ∧ jj.k = g.cp ∧ jj.b = b ∧ jj.bm = bm) := Lib.hid (by rw [hjj]; exact ⟨rfl, rfl, rfl, rfl, rfl, rfl⟩)
 rw [← hjj] at HJ3
 clear hjj
 go_loopg [18] n (fun kx s18 wr => ∃ k : Nat, s18 = .int .i64 k ∧ k ≤ n ∧ n - k ≤ kx ∧ Hid (LK wr jj k (stpsL jj.n jj.k (S.take k))) ∧ Hid (Below w2.heap.size w2 wr) ∧ Hid (RowAt lyS wr A S))
 case atStart => exact ⟨0, rfl, by omega, by omega, Lib.hid HJ3.out, Lib.hid HB3.out, Lib.hid (HST.out.up HB3.out)⟩
 case round =>
  obtain ⟨k, rfl, hk, hkx, HLK, HB, HR⟩ := hrel
  by_cases hlt : k < n
  ·have hltz : (k : Int) < (n : Int) := by omega
   obtain ⟨s, hs⟩ : ∃ s, S[k]? = some s := ⟨_, List.getElem?_eq_getElem (by rw [HNL.out]; exact hlt)⟩
   obtain ⟨bb, off, hA, hbl, hrg⟩ := HR.out.at hs
   subst hA
   have HLY : Hid ((Instr.loadAt 37 (.pointer (some ⟨bb, off + k * 3, none⟩))).run Try.prog wr = .ok (stpV s) wr) := Lib.hid (run_loadAt_mid wr bb (off + k * 3) 37 (stpC s) _ (fun jj v hv => hrg jj v hv) Try.underlying37 rfl (by kernel_rfl))
   have HM0 : True := trivial
   have HOS := Lib.hid (HOK.out s (List.mem_of_getElem? hs))
   have HTK : Hid (S.take (k + 1) = S.take k ++ [s]) := Lib.hid (by rw [List.take_add_one, hs]; rfl)
   have HKN : Hid (k ≤ 1000) := Lib.hid (by have := HL.out; omega)
   obtain ⟨sr, hsr⟩ : ∃ sr, wr.heap.size = sr := ⟨_, rfl⟩
   have HSR := Lib.hid hsr
   clear hs hbl hrg
   go_upto_region 7 with (first
    | (clear HM0; refine wpList_load_is rfl 37 _ rfl (.pointer (some ⟨bb, off + k * 3, none⟩)) rfl (stpV s) HLY.out ?_)
    | (refine wpList_store_wh rfl 37 _ _ rfl sr (by first | rfl | (rw [← HSR.out]; rfl)) 37 [.int .i64 0, .int .i64 0, .bool false] (stpC s) rfl (by rw [← HSR.out]; exact Wh.new wr 37 [.int .i64 0, .int .i64 0, .bool false]) rfl (by kernel_rfl) (by kernel_rfl) ?_; intro w5 hr5 ho5 hz5; have HR5 := Lib.hid hr5.out; have hb5 : Below wr.heap.size wr w5 := only_new (by rw [HSR.out]; exact ho5.out); have HB5 := Lib.hid hb5; clear hr5 ho5 hz5 hb5))
   have hL5 : LK w5 jj k (stpsL jj.n jj.k (S.take k)) := HLK.out.up HB5.out
   have HL5 := Lib.hid hL5
   have HD := Lib.hid (do_any s hL5 HOS.out HKN.out)
   obtain ⟨VS, hVS⟩ : ∃ VS, VS = stpV s := ⟨_, rfl⟩
   have HLS : Hid ((Instr.loadAt 37 (.pointer (some ⟨sr, 0, none⟩))).run Try.prog w5 = .ok VS w5) := Lib.hid (by rw [hVS]; exact HR5.out.rg.load 0 37 (stpC s) rfl _ Try.underlying37 rfl (by kernel_rfl))
   rw [← hVS] at HD
   clear hL5 hVS
   have HEB : Hid (jj.p = .pointer (some ⟨b, 0, none⟩)) := Lib.hid (by unfold LD.p; rw [HEQ.out.2.2.2.2.1])
   rw [HEB.out] at HD
   go_wp2_with (first
    | (refine wpList_load_is rfl 37 _ rfl (.pointer (some ⟨sr, 0, none⟩)) rfl VS HLS.out ?_)
    | (go_at_call 15; refine HD.out.mono ?_; rintro r w6 ⟨rfl, h6, o6⟩; have H6 := Lib.hid h6; have O6 := Lib.hid o6; clear h6 o6))
   have HX : Hid (Below w2.heap.size w5 w6) := Lib.hid (O6.out.below (fun i hi => by have h9 : i = jj.bm := hi; have := HBM.out; have := HEQ.out.2.2.2.2.2; omega) (Nat.le_trans HB.out.size HB5.out.size))
   have HR6 : Hid (RowAt lyS w6 (some ⟨bb, off, none⟩) S) := Lib.hid ((HST.out.up ((HB.out.trans (HB5.out.mono HB.out.size)).trans HX.out)))
   go_roundg (n - (k + 1))
   case measure => omega
   case rel => exact ⟨k + 1, by (have := HL.out; go_num), by omega, by omega, Lib.hid (by rw [HTK.out, stpsL_snoc]; exact H6.out), Lib.hid ((HB.out.trans (HB5.out.mono HB.out.size)).trans HX.out), HR6⟩
  ·obtain rfl : k = n := by omega
   have hltz : ¬ (k : Int) < (k : Int) := by omega
   go_wp2_with fail
   go_ret
   have hE := HEQ.out
   have hTL : S.take k = S := List.take_of_length_le (by rw [HNL.out]; exact Nat.le_refl _)
   have hJ := HLK.out
   rw [hTL] at hJ
   have hS0 := HS0.out
   have hS2 := HS2.out
   refine ⟨⟨jj, by rw [show jj.p = .pointer (some ⟨b, 0, none⟩) from by unfold LD.p; rw [hE.2.2.2.2.1]]; rfl, ⟨hE.1, hE.2.1, hE.2.2.1, hE.2.2.2.1⟩, by rw [HNL.out]; rw [hE.1, hE.2.2.2.1] at hJ; exact hJ, ?_, ?_⟩, ?_⟩
   ·have := HBB.out; omega
   ·have := HBM.out; omega
   ·have h9 := HB2.out.trans (HB.out.mono (by omega))
    first | exact h9 | (rw [HS0.out]; exact h9)
open Go.RowKit Go.Maps
theorem smp_sml (A : Option Addr) (c : Nat) (E : Option Addr) (p0 p1 p2 p3 : EAd) : Sm (smpG A c E) (smpEs p0 p1 p2 p3) := ⟨by show 26 ≤ 60; omega, by show 4 ≤ 14; omega, fun e he => by
 simp [smpEs] at he
 rcases he with rfl | rfl | rfl | rfl <;> exact ⟨by show 14 ≤ 60; omega, by show 14 ≤ 60; omega⟩⟩
theorem smp_wl (A : Option Addr) (c : Nat) (E : Option Addr) (p0 p1 p2 p3 : EAd) : GrW (smpG A c E) smpL (smpEs p0 p1 p2 p3) := ⟨by show 3 ≤ maxLen; unfold maxLen; omega, (by
 have h : ((smpG A c E).R.all fun x => (Lit.int .i64 x).wf) = true := by kernel_rfl
 exact fun x hx => List.all_eq_true.1 h x hx), fun e he => by
 simp [smpEs] at he
 rcases he with rfl | rfl | rfl | rfl
 ·exact ⟨by show 6 ≤ maxLen; unfold maxLen; omega, by show 3 ≤ maxLen; unfold maxLen; omega⟩
 ·exact ⟨by show 5 ≤ maxLen; unfold maxLen; omega, by show 3 ≤ maxLen; unfold maxLen; omega⟩
 ·exact ⟨by show 4 ≤ maxLen; unfold maxLen; omega, by show 3 ≤ maxLen; unfold maxLen; omega⟩
 ·exact ⟨by show 5 ≤ maxLen; unfold maxLen; omega, by show 3 ≤ maxLen; unfold maxLen; omega⟩⟩
def etyD (e d : Int) : Ety := ⟨0, e, d, 0, 0, ⟨#[]⟩, none, 0, 0⟩
theorem etyD_build (e d : Int) (w : World) : (Instr.build 42 #[(1, .int .i64 e), (2, .int .i64 d)]).run Try.prog w = .ok (etyV (etyD e d)) w := run_build w 42 _ _ (by kernel_rfl)
theorem aw_add : addE 4 36 [] (1, 1) = 0 ∧ addL 4 36 [] (1, 1) = [(1, 1)] := by decide
theorem aw_chk : chkL 4 2026 1 36 [(1, 1)] 1 20512 = 12 ∧ chkL 4 2026 1 36 [(1, 1)] 1 20513 = 0 := by decide +kernel
theorem wpList_build_if {P : Program} {w : World} {ops : Array Oper} {rest : List Oper} {o : Oper} {a : Act} {Q : Exit → Act → World → Prop} (hw : Region.wanted o (yielded ops a.tmps) = true) (ty : TypeId) (ps : Array (Nat × Operand)) (hop : o.op = .build ty ps) (L : List (Nat × Value)) (hL : (ps.toList.map fun p => (p.1, a.eval p.2)) = L) (V : Value)
  (hl : (Instr.build ty L.toArray).run P w = .ok V w) (h : wpList P ops Q rest (a.put o.dst V) w) : wpList P ops Q (o :: rest) a w := by
 refine wpList_step fun K hK => ?_
 rw [hw, if_pos rfl]
 have he : (ps.map fun p => (p.1, a.eval p.2)) = L.toArray := by rw [← hL]; exact Array.ext' (by rw [Array.toList_map])
 have hl2 : (Instr.build ty (ps.map fun x => match x with | (i, x) => (i, a.eval x))).run P w = .ok V w := by
  rw [← he] at hl; exact hl
 unfold Oper.wp execOp
 simp only [hop, Sem.run_bind, hl2, Sem.run_pure, Result.andThen_ok]
 exact hK _ _ h
set_option maxRecDepth 100000 in
set_option maxHeartbeats 6400000 in
theorem lkawake_any (w : World) : Calls Try.prog 4 #[] w fun e w' => e = .returned (.bool true) ∧ Below w.heap.size w w' := by
 have HN := Lib.hid (fun A c E p0 p1 p2 p3 W (h : GrK W (smpG A c E) smpL (smpEs p0 p1 p2 p3)) => lnew_any (smpG A c E) smpL (smpEs p0 p1 p2 p3) W h (smp_sml A c E p0 p1 p2 p3) (smp_wl A c E p0 p1 p2 p3))
 have hok : okK (1, 1) := ⟨rfl, rfl⟩
 have HOK := Lib.hid hok
 clear hok
 have HM1 : True := trivial
 have HM2 : True := trivial
 have HM3 : True := trivial
 have HM4 : True := trivial
 go_enter Try.func4, Try.ntmps4
 go_wp2_with (first
  | (go_at_call 10; refine (gsgrp_any _).mono ?_; rintro e w3 ⟨⟨A, c, E, p0, p1, p2, p3, rfl, hk⟩, hb⟩; have HK3 := Lib.hid hk; have HB3 := Lib.hid hb; clear hk hb; obtain ⟨GV, hGV⟩ : ∃ GV, GV = grpV (smpG A c E) := ⟨_, rfl⟩; have HN3 := Lib.hid (HN.out A c E p0 p1 p2 p3); rw [← hGV]; rw [← hGV] at HN3; clear hGV)
  | (go_at_call 9; refine (HN3.out _ HK3.out).mono ?_; rintro e w4 ⟨hq, hb⟩; unfold LNewQ at hq; rw [smp_ok, if_pos rfl] at hq; obtain ⟨b, bm, rfl, hj, h1, h2⟩ := hq; have HJ4 : Hid (LK w4 ⟨b, 4, 2026, 1, 36, bm⟩ 0 []) := Lib.hid hj; have HB4 := Lib.hid (HB3.out.trans (hb.mono HB3.out.size)); have HBM := Lib.hid (Nat.le_trans HB3.out.size h2); have HL4 := Lib.hid (lock_any 1 1 HJ4.out HOK.out (by omega)); clear hj hb h1 h2)
  | (go_at_call 11; refine HL4.out.mono ?_; rintro e w5 ⟨he, h5, o5⟩; rw [aw_add.1] at he; subst he; rw [aw_add.2] at h5; have H5 := Lib.hid h5; have HB5 := Lib.hid (HB4.out.trans (o5.below (fun k hk => by have h9 : k = bm := hk; have := HBM.out; omega) HB4.out.size)); clear h5 o5)
  | (clear HM1; refine wpList_build_is rfl 42 _ rfl [(1, .int .i64 1), (2, .int .i64 20512)] rfl (etyV (etyD 1 20512)) (etyD_build _ _ _) ?_)
  | (clear HM2; refine wpList_build_is rfl 42 _ rfl [(1, .int .i64 1), (2, .int .i64 20513)] rfl (etyV (etyD 1 20513)) (etyD_build _ _ _) ?_)
  | (clear HM3; go_at_call 8; refine (check_any (etyD 1 20512) H5.out rfl).mono ?_; rintro e w6 ⟨he, hb⟩; rw [show chkL 4 2026 1 36 [(1, 1)] (etyD 1 20512).ent (etyD 1 20512).day = 12 from aw_chk.1] at he; subst he; have H6 := Lib.hid (H5.out.up hb); have HB6 := Lib.hid (HB5.out.trans (hb.mono HB5.out.size)); clear hb)
  | (clear HM4; go_at_call 8; refine (check_any (etyD 1 20513) H6.out rfl).mono ?_; rintro e w7 ⟨he, hb⟩; rw [show chkL 4 2026 1 36 [(1, 1)] (etyD 1 20513).ent (etyD 1 20513).day = 0 from aw_chk.2] at he; subst he; have HB7 := Lib.hid (HB6.out.trans (hb.mono HB6.out.size)); clear hb))
 go_ret
 exact ⟨rfl, HB7.out⟩
open Go.RowKit
def fewR (e : Ent) : Bool := decide (e.n ≤ 40) && (decide (e.m ≤ 60) && !decide ((60 : Int) < wrap64 ((e.nm.size : Int) + (e.cur.size : Int))))
def few10 (g : Grp) (G : List Ent) : Bool := allTo (fun i => fewR (G.getD i ent0)) G.length && (decide (g.n ≤ 60) && (decide (g.m ≤ 14) && decide ((g.cur.size : Int) ≤ 20)))
theorem few_sm {g : Grp} {G : List Ent} (h : few10 g G = true) : Sm g G := by
 unfold few10 at h
 simp only [Bool.and_eq_true, decide_eq_true_eq] at h
 obtain ⟨h1, h2, h3, -⟩ := h
 refine ⟨h2, h3, fun e he => ?_⟩
 obtain ⟨i, hi, rfl⟩ := mem_getD_acc (d := ent0) he
 have h4 := allTo_is.1 h1 i hi
 unfold fewR at h4
 simp only [Bool.and_eq_true, decide_eq_true_eq] at h4
 exact ⟨by omega, h4.2.1⟩
set_option maxRecDepth 20000 in
set_option maxHeartbeats 1600000 in
theorem rfew10_is (g : Grp) (G : List Ent) (w : World) (he : EntsAt w g.E G) (lg : G.length = g.m) (hmx : g.m ≤ 9223372036854775807) :
  Calls Try.prog 5 #[grpV g] w fun e w' => e = .returned (.bool (few10 g G)) ∧ Below w.heap.size w w' := by
 have hB := below_alloc_new (w := w) (.cells #[.string g.cur, .int .i64 g.cy, .int .i64 g.cm, .int .i64 g.cp, .slice g.A g.n g.c, .int .i64 g.r0, .int .i64 g.r1, .int .i64 g.r2, .int .i64 g.r3, .int .i64 g.r4, .int .i64 g.r5, .int .i64 g.r6, .int .i64 g.r7, .int .i64 g.r8, .int .i64 g.r9, .int .i64 g.r10, .int .i64 g.r11, .int .i64 g.r12, .int .i64 g.r13, .int .i64 g.r14, .slice g.E g.m g.d] 29)
 have hG := gb_new w 29 g
 have hv : few10 g G = (allTo (fun i => fewR (G.getD i ent0)) G.length && (decide (g.n ≤ 60) && (decide (g.m ≤ 14) && decide ((g.cur.size : Int) ≤ 20)))) := rfl
 rw [lg] at hv
 generalize few10 g G = r at *
 obtain ⟨P, hP⟩ : ∃ P : Nat → Bool, (fun i => fewR (G.getD i ent0)) = P := ⟨_, rfl⟩
 have hpk : ∀ k, P k = fewR (G.getD k ent0) := fun k => by rw [← hP]
 rw [hP] at hv
 have HV := Lib.hid hv
 have HPK := Lib.hid hpk
 clear hv hpk hP
 obtain ⟨s0, hs0⟩ : ∃ s0, w.heap.size = s0 := ⟨_, rfl⟩
 rw [hs0] at hB hG ⊢
 have HM := Lib.hid lg
 have HZ := Lib.hid he
 have HS0 := Lib.hid hs0
 have HG := Lib.hid hG
 clear he lg hG
 go_enter Try.func5, Try.ntmps5
 go_wp2_with fail
 clear hs0
 go_loopg [3] g.m (fun kx s3 wr => ∃ k : Nat, s3 = .int .i64 k ∧ k ≤ g.m ∧ g.m - k ≤ kx ∧ Hid (allTo P k = true) ∧ Hid (GB wr s0 g) ∧ Below s0 w wr)
 case atStart => exact ⟨0, rfl, by omega, by omega, Lib.hid rfl, HG, hB⟩
 case round =>
  clear hB HG
  obtain ⟨k, rfl, hk, hkx, HN, HG, hB⟩ := hrel
  have c20 := HG.out.c20
  have hsz : s0 ≤ wr.heap.size := by have := hB.size; have := HS0.out; omega
  by_cases hlt : k < g.m
  ·have hltz : (k : Int) < (g.m : Int) := by omega
   obtain ⟨b, off, eE, hbw, hcs⟩ := ent_at HZ.out (k := k) (by rw [HM.out]; omega)
   obtain ⟨c0, c1, c2, c3, c4⟩ := hcs.up hB (by have := HS0.out; omega)
   have hno : P k = false → r = false := fun h => by rw [HV.out, allTo_no hlt h]; rfl
   have hnx : P k = true → Hid (allTo P (k + 1) = true) := fun h => Lib.hid (by show (allTo P k && P k) = true; rw [HN.out, h]; rfl)
   have hpk := HPK.out k
   obtain ⟨x, hx⟩ : ∃ x, G.getD k ent0 = x := ⟨_, rfl⟩
   rw [hx] at c0 c1 c2 c3 c4 hpk
   have hfr : fewR x = (decide (x.n ≤ 40) && (decide (x.m ≤ 60) && !decide ((60 : Int) < wrap64 ((x.nm.size : Int) + (x.cur.size : Int))))) := rfl
   rw [hfr] at hpk
   generalize P k = pk at *
   obtain ⟨z0, z1, z2, z3, z4, zlt⟩ := eb_new wr 50 x.nm x.cur x.A x.n x.c x.B x.m x.d x.jt
   have hB1 : Below s0 w (wr.alloc (.cells #[.string x.nm, .string x.cur, .slice x.A x.n x.c, .slice x.B x.m x.d, .bool x.jt] 50)) := hB.alloc hsz _
   have HG1 := Lib.hid (HG.out.up (below_alloc_new (w := wr) (.cells #[.string x.nm, .string x.cur, .slice x.A x.n x.c, .slice x.B x.m x.d, .bool x.jt] 50)))
   clear hcs hx HN HG hfr
   rcases Nat.lt_or_ge 40 x.n with h1 | h1
   ·have e1 : decide ((40 : Int) < (x.n : Int)) = true := decide_eq_true (by omega)
    have HR := Lib.hid (hno (by rw [hpk, decide_eq_false (show ¬ x.n ≤ 40 by omega)]; rfl))
    clear hnx h1 hno hpk
    go_wp2_with fail
    go_ret
    exact ⟨by rw [HR.out]; rfl, hB1⟩
   have e1 : decide ((40 : Int) < (x.n : Int)) = false := decide_eq_false (by omega)
   rcases Nat.lt_or_ge 60 x.m with h2 | h2
   ·have e2 : decide ((60 : Int) < (x.m : Int)) = true := decide_eq_true (by omega)
    have HR := Lib.hid (hno (by rw [hpk, decide_eq_false (show ¬ x.m ≤ 60 by omega)]; simp))
    clear hnx h1 h2 hno hpk
    go_wp2_with fail
    go_ret
    exact ⟨by rw [HR.out]; rfl, hB1⟩
   have e2 : decide ((60 : Int) < (x.m : Int)) = false := decide_eq_false (by omega)
   rw [decide_eq_true h1, decide_eq_true h2] at hpk
   clear h1 h2
   cases e3 : decide ((60 : Int) < wrap64 ((x.nm.size : Int) + (x.cur.size : Int)))
   ·have HN2 := hnx (by rw [hpk, e3]; rfl)
    clear hnx hno hpk
    go_wp2_with fail
    go_roundg (g.m - (k + 1))
    case measure => omega
    case rel => exact ⟨k + 1, by go_num, by omega, by omega, HN2, HG1, hB1⟩
   ·have HR := Lib.hid (hno (by rw [hpk, e3]; rfl))
    clear hnx hno hpk
    go_wp2_with fail
    go_ret
    exact ⟨by rw [HR.out]; rfl, hB1⟩
  ·have hke : k = g.m := by omega
   have hltz : ¬ (k : Int) < (g.m : Int) := by omega
   have hv2 := HV.out
   rw [← hke, HN.out, Bool.true_and] at hv2
   have hm9 : decide (k ≤ 14) = decide (g.m ≤ 14) := by rw [hke]
   have c4 := HG.out.c4
   have c0 := HG.out.c0
   clear hke
   rcases Nat.lt_or_ge 60 g.n with h1 | h1
   ·have e1 : decide ((g.n : Int) ≤ 60) = false := decide_eq_false (by omega)
    have HR : Hid (r = false) := Lib.hid (by rw [hv2, decide_eq_false (show ¬ g.n ≤ 60 by omega)]; rfl)
    clear h1 hv2
    go_wp2_with fail
    go_ret
    exact ⟨by rw [HR.out]; rfl, hB⟩
   have e1 : decide ((g.n : Int) ≤ 60) = true := decide_eq_true (by omega)
   rcases Nat.lt_or_ge 14 g.m with h2 | h2
   ·have e2 : decide ((g.m : Int) ≤ 14) = false := decide_eq_false (by omega)
    have HR : Hid (r = false) := Lib.hid (by rw [hv2, hm9, decide_eq_false (show ¬ g.m ≤ 14 by omega)]; simp)
    clear h1 h2 hv2 hm9
    go_wp2_with fail
    go_ret
    exact ⟨by rw [HR.out]; rfl, hB⟩
   have e2 : decide ((g.m : Int) ≤ 14) = true := decide_eq_true (by omega)
   have HR : Hid (r = decide ((g.cur.size : Int) ≤ 20)) := Lib.hid (by rw [hv2, hm9, decide_eq_true h1, decide_eq_true h2]; rfl)
   clear h1 h2 hv2 hm9
   go_wp2_with fail
   go_ret
   exact ⟨by rw [HR.out]; rfl, hB⟩
theorem infoStp : (Try.prog.info? 37).map (fun i => (i.zero, i.size, i.bytes)) = some (some (.agg #[.int .i64 0, .int .i64 0, .bool false]), 3, 24) := by kernel_rfl
set_option maxRecDepth 100000 in
set_option maxHeartbeats 12800000 in
theorem law_lkbeg (g : Grp) (L : List Acc) (G : List Ent) (A : Option Addr) (n c : Nat) (S : List Stp) (x y z : Int) (w : World) (bx : -9223372036854775808 ≤ x ∧ x ≤ 9223372036854775807) (by_ : -9223372036854775808 ≤ y ∧ y ≤ 9223372036854775807) (bz : -9223372036854775808 ≤ z ∧ z ≤ 9223372036854775807) (hk : GrK w g L G) (hw : GrW g L G) (hmx : g.m ≤ 9223372036854775807) (hn : S.length = n) (hnm : n ≤ 9223372036854775807) (hS : RowAt lyS w A S) (hok : ∀ s ∈ S, okStp s)  :
  Calls Try.prog 3 #[grpV g, .slice A n c, .agg #[.int .i64 x, .int .i64 y, .int .i64 z]] w fun e w' => e = .returned (.bool true) ∧ Below w.heap.size w w' := by
 have HAW := Lib.hid lkawake_any
 have HFW := Lib.hid (fun W (h : EntsAt W g.E G) => rfew10_is g G W h hk.lg hmx)
 have HRV := Lib.hid (fun (hs : Sm g G) W (h : GrK W g L G) => rvalid10_any g L G W h hs hw)
 have HGW := Lib.hid hw
 obtain ⟨s0, hs0⟩ : ∃ s0, w.heap.size = s0 := ⟨_, rfl⟩
 obtain ⟨w2, hw2⟩ : ∃ w2, (w.alloc (.cells #[.string g.cur, .int .i64 g.cy, .int .i64 g.cm, .int .i64 g.cp, .slice g.A g.n g.c, .int .i64 g.r0, .int .i64 g.r1, .int .i64 g.r2, .int .i64 g.r3, .int .i64 g.r4, .int .i64 g.r5, .int .i64 g.r6, .int .i64 g.r7, .int .i64 g.r8, .int .i64 g.r9, .int .i64 g.r10, .int .i64 g.r11, .int .i64 g.r12, .int .i64 g.r13, .int .i64 g.r14, .slice g.E g.m g.d] 29)).alloc (.cells #[.int .i64 x, .int .i64 y, .int .i64 z] 31) = w2 := ⟨_, rfl⟩
 have HGB : Hid (Wh 29 w2 s0 (grpC g)) := Lib.hid (by rw [← hw2, ← hs0]; exact (Wh.new w 29 (grpC g)).up (below_alloc_new _))
 have HXB : Hid (Wh 31 w2 (s0 + 1) [.int .i64 x, .int .i64 y, .int .i64 z]) := Lib.hid (by
  rw [← hw2, ← hs0]
  have h9 := Wh.new (w.alloc (.cells #[.string g.cur, .int .i64 g.cy, .int .i64 g.cm, .int .i64 g.cp, .slice g.A g.n g.c, .int .i64 g.r0, .int .i64 g.r1, .int .i64 g.r2, .int .i64 g.r3, .int .i64 g.r4, .int .i64 g.r5, .int .i64 g.r6, .int .i64 g.r7, .int .i64 g.r8, .int .i64 g.r9, .int .i64 g.r10, .int .i64 g.r11, .int .i64 g.r12, .int .i64 g.r13, .int .i64 g.r14, .slice g.E g.m g.d] 29)) 31 [.int .i64 x, .int .i64 y, .int .i64 z]
  rw [World.size_alloc] at h9
  exact h9)
 have HB2 : Hid (Below w.heap.size w w2) := Lib.hid (by rw [← hw2]; exact below_new (below_alloc_new _) _)
 have HKC := Lib.hid (hk.up HB2.out)
 have HSC := Lib.hid (hS.up HB2.out)
 have HOK := Lib.hid hok
 have HS0 := Lib.hid hs0
 have HNL := Lib.hid hn
 have HBC := Lib.hid (Below.refl w2.heap.size w2)
 obtain ⟨GV, hGV⟩ : ∃ GV, GV = grpV g := ⟨_, rfl⟩
 have HLG : Hid (∀ w9, Below w2.heap.size w2 w9 → (Instr.loadAt 29 (.pointer (some ⟨s0, 0, none⟩))).run Try.prog w9 = .ok GV w9) := Lib.hid (fun w9 h9 => by rw [hGV, grpV_is]; exact (HGB.out.up h9).rg.load 0 29 (grpC g) rfl _ Try.underlying29 rfl (by kernel_rfl))
 rw [← hGV] at HFW HRV
 have HGV := Lib.hid hGV
 clear hk hGV hw hS hok hn hmx
 have HM1 : True := trivial
 have HM2 : True := trivial
 have HM3 : True := trivial
 have HM4 : True := trivial
 have HM5 : True := trivial
 have HM6 : True := trivial
 cases hf : few10 g G
 ·rw [hf] at HFW
  clear hf
  go_enter Try.func3, Try.ntmps3
  go_wp2_with (first
   | (go_at_call 4; refine (HAW.out _).mono ?_; rintro e w3 ⟨rfl, hb⟩; have hB3 := Lib.hid (HBC.out.trans (hb.mono HBC.out.size)); clear hb HBC; have HBC := hB3; clear hB3)
   | (clear HM1; refine wpList_load_if (by rfl) 29 _ rfl (.pointer (some ⟨s0, 0, none⟩)) rfl GV (HLG.out _ HBC.out) ?_)
   | (go_at_call 5; refine (HFW.out _ (HKC.out.up HBC.out).he).mono ?_; rintro e w3 ⟨rfl, hb⟩; have hB3 := Lib.hid (HBC.out.trans (hb.mono HBC.out.size)); clear hb HBC; have HBC := hB3; clear hB3))
  go_ret
  exact ⟨by first | rfl | simp, (by have h9 := HB2.out.trans (HBC.out.mono HB2.out.size); first | exact h9 | (rw [← HS0.out]; exact h9))⟩
 ·rw [hf] at HFW
  have HSM := Lib.hid (few_sm hf)
  clear hf
  by_cases hl : n ≤ 30
  ·have hlz : decide ((n : Int) > 30) = false := decide_eq_false (by omega)
   have hly : decide ((30 : Int) < (n : Int)) = false := decide_eq_false (by omega)
   cases hv : grpR g L G
   ·rw [hv] at HRV
    clear hv
    go_enter Try.func3, Try.ntmps3
    go_wp2_with (first
     | (go_at_call 4; refine (HAW.out _).mono ?_; rintro e w3 ⟨rfl, hb⟩; have hB3 := Lib.hid (HBC.out.trans (hb.mono HBC.out.size)); clear hb HBC; have HBC := hB3; clear hB3)
     | (clear HM1; refine wpList_load_if (by rfl) 29 _ rfl (.pointer (some ⟨s0, 0, none⟩)) rfl GV (HLG.out _ HBC.out) ?_)
     | (go_at_call 5; refine (HFW.out _ (HKC.out.up HBC.out).he).mono ?_; rintro e w3 ⟨rfl, hb⟩; have hB3 := Lib.hid (HBC.out.trans (hb.mono HBC.out.size)); clear hb HBC; have HBC := hB3; clear hB3)
     | (clear HM2; refine wpList_load_if (by rfl) 29 _ rfl (.pointer (some ⟨s0, 0, none⟩)) rfl GV (HLG.out _ HBC.out) ?_)
     | (go_at_call 6; refine (HRV.out HSM.out _ (HKC.out.up HBC.out)).mono ?_; rintro e w3 ⟨rfl, hb⟩; have hB3 := Lib.hid (HBC.out.trans (hb.mono HBC.out.size)); clear hb HBC; have HBC := hB3; clear hB3))
    go_ret
    exact ⟨by first | rfl | simp, (by have h9 := HB2.out.trans (HBC.out.mono HB2.out.size); first | exact h9 | (rw [← HS0.out]; exact h9))⟩
   ·rw [hv] at HRV
    have HV : Hid (grpP g L G = true) := Lib.hid ((grp_eq g L G).trans hv)
    have HL30 := Lib.hid hl
    clear hv
    go_enter Try.func3, Try.ntmps3
    go_upto_region 3 with (first
     | (go_at_call 4; refine (HAW.out _).mono ?_; rintro e w3 ⟨rfl, hb⟩; have hB3 := Lib.hid (HBC.out.trans (hb.mono HBC.out.size)); clear hb HBC; have HBC := hB3; clear hB3)
     | (clear HM1; refine wpList_load_if (by rfl) 29 _ rfl (.pointer (some ⟨s0, 0, none⟩)) rfl GV (HLG.out _ HBC.out) ?_)
     | (go_at_call 5; refine (HFW.out _ (HKC.out.up HBC.out).he).mono ?_; rintro e w3 ⟨rfl, hb⟩; have hB3 := Lib.hid (HBC.out.trans (hb.mono HBC.out.size)); clear hb HBC; have HBC := hB3; clear hB3)
     | (clear HM2; refine wpList_load_if (by rfl) 29 _ rfl (.pointer (some ⟨s0, 0, none⟩)) rfl GV (HLG.out _ HBC.out) ?_)
     | (go_at_call 6; refine (HRV.out HSM.out _ (HKC.out.up HBC.out)).mono ?_; rintro e w3 ⟨rfl, hb⟩; have hB3 := Lib.hid (HBC.out.trans (hb.mono HBC.out.size)); clear hb HBC; have HBC := hB3; clear hB3))
    have x0 := (HXB.out.up HBC.out).at 0 _ rfl
    have x1 := (HXB.out.up HBC.out).at 1 _ rfl
    have x2 := (HXB.out.up HBC.out).at 2 _ rfl
    have HBC0 := Lib.hid (below_drewN HBC.out 1)
    go_quiet (fail)
    replace HBC0 := Lib.hid (below_drewN HBC.out nq)
    clear HBC x0 x1 x2
    have HBC := HBC0
    clear HBC0
    generalize World.drewN _ nq = W1 at *
    generalize hd1 : (if z < y then z else y) = d1 at *
    generalize hd2 : (if y < z then z else y) = d2 at *
    have HD12 : Hid (d1 ≤ d2) := Lib.hid (by rw [← hd1, ← hd2]; split <;> split <;> omega)
    clear hd1 hd2
    have HFL := Lib.hid (fun W (h : GrK W g L G) (h2 : RowAt lyS W A S) => by have h9 := filled_any g L G A c S W h HSM.out HGW.out HV.out h2 HOK.out (by rw [HNL.out]; omega); rw [HNL.out, ← HGV.out] at h9; exact h9)
    go_wp2_with (first
     | (clear HM3; refine wpList_load_is rfl 29 _ rfl (.pointer (some ⟨s0, 0, none⟩)) rfl GV (HLG.out _ HBC.out) ?_)
     | (go_at_call 7; refine (HFL.out _ (HKC.out.up HBC.out) (HSC.out.up HBC.out)).mono ?_; rintro e w4 ⟨⟨j1, rfl, hq1, hj1, hb1, hm1⟩, hb⟩; have HQ1 := Lib.hid hq1; have HJ1 := Lib.hid hj1; clear hq1 hj1 hb1 hm1; have hB3 := Lib.hid (HBC.out.trans (hb.mono HBC.out.size)); clear hb HBC; have HBC := hB3; clear hB3))
    obtain ⟨s4, hs4⟩ : ∃ s4, w4.heap.size = s4 := ⟨_, rfl⟩
    have HS4 := Lib.hid hs4
    clear hs4
    obtain ⟨i0, hi, hz1, hz2, hz3⟩ := info_parts infoStp
    go_loopg [11, 52] n (fun kx s11 s52 wr => ∃ (k : Nat), s52 = .int .i64 k ∧ k ≤ n ∧ n - k ≤ kx ∧ Hid (OwnR lyS 37 wr s4 s11 ((S.take k).filter fun s => decide (s.e = x))) ∧ Hid (Below s4 w4 wr))
    case atStart => exact ⟨0, rfl, by omega, by omega, Lib.hid OwnR.nil, Lib.hid (Below.refl _ _)⟩
    case round =>
     obtain ⟨k, rfl, hk, hkx, HO, HB⟩ := hrel
     by_cases hlt : k < n
     ·have hltz : (k : Int) < (n : Int) := by omega
      obtain ⟨s, hs⟩ : ∃ s, S[k]? = some s := ⟨_, List.getElem?_eq_getElem (by rw [HNL.out]; exact hlt)⟩
      have HR : Hid (RowAt lyS wr A S) := Lib.hid ((HSC.out.up HBC.out).up (HB.out.mono (Nat.le_of_eq HS4.out)))
      obtain ⟨bb, off, hA, hbl, hrg⟩ := HR.out.at hs
      subst hA
      have HLY : Hid ((Instr.loadAt 37 (.pointer (some ⟨bb, off + k * 3, none⟩))).run Try.prog wr = .ok (stpV s) wr) := Lib.hid (run_loadAt_mid wr bb (off + k * 3) 37 (stpC s) _ (fun jj v hv => hrg jj v hv) Try.underlying37 rfl (by kernel_rfl))
      have HTK : Hid (S.take (k + 1) = S.take k ++ [s]) := Lib.hid (by rw [List.take_add_one, hs]; rfl)
      have HKN : Hid (k ≤ 30) := Lib.hid (by have := HL30.out; omega)
      have HFN : Hid (((S.take k).filter fun s => decide (s.e = x)).length ≤ 30) := Lib.hid (by have h1 := List.length_filter_le (fun s : Stp => decide (s.e = x)) (S.take k); have h2 := List.length_take_le k S; have := HKN.out; omega)
      obtain ⟨sr, hsr⟩ : ∃ sr, wr.heap.size = sr := ⟨_, rfl⟩
      have HSR := Lib.hid hsr
      have HN0 : True := trivial
      clear hs hbl hrg
      go_upto_region 9 with (first
       | (clear HN0; refine wpList_load_is rfl 37 _ rfl (.pointer (some ⟨bb, off + k * 3, none⟩)) rfl (stpV s) HLY.out ?_)
       | (refine wpList_store_wh rfl 37 _ _ rfl sr (by first | rfl | (rw [← HSR.out]; rfl)) 37 [.int .i64 0, .int .i64 0, .bool false] (stpC s) rfl (by rw [← HSR.out]; exact Wh.new wr 37 [.int .i64 0, .int .i64 0, .bool false]) rfl (by kernel_rfl) (by kernel_rfl) ?_; intro w5 hr5 ho5 hz5; have HR5 := Lib.hid hr5.out; have hb5 : Below wr.heap.size wr w5 := only_new (by rw [HSR.out]; exact ho5.out); have HB5 := Lib.hid (HB.out.trans (hb5.mono (by have := HB.out.size; have := HS4.out; omega))); have HO5 := Lib.hid (HO.out.up hb5); clear hr5 ho5 hz5 hb5))
      have y0 := HR5.out.at 0 _ rfl
      by_cases he : s.e = x
      ·have he1 : (s.e == x) = true := by simp [he]
       have HLS : Hid ((Instr.loadAt 37 (.pointer (some ⟨sr, 0, none⟩))).run Try.prog w5 = .ok (stpV s) w5) := Lib.hid (HR5.out.rg.load 0 37 (stpC s) rfl _ Try.underlying37 rfl (by kernel_rfl))
       have HFE : Hid ((S.take (k + 1)).filter (fun s => decide (s.e = x)) = (S.take k).filter (fun s => decide (s.e = x)) ++ [s]) := Lib.hid (by rw [HTK.out, List.filter_append, List.filter_cons_of_pos (by simpa using he)]; rfl)
       have hx8 : Below w5.heap.size w5 (w5.alloc (.cells #[.int .i64 s.e, .int .i64 s.p, .bool s.u] 37)) := below_alloc_new _
       have HX8 := Lib.hid hx8
       have HR8 : Hid (RowAt lyS (w5.alloc (.cells #[.int .i64 s.e, .int .i64 s.p, .bool s.u] 37)) (some ⟨w5.heap.size, 0, none⟩) [s]) := Lib.hid (row_one (R := lyS) (x := s) (Wh.new w5 37 (stpC s)))
       have HA8 := Lib.hid (HO5.out.up hx8)
       have HN1 : True := trivial
       clear hx8 he
       go_wp2_with (first
        | (clear HN1; refine wpList_load_is rfl 37 _ rfl (.pointer (some ⟨sr, 0, none⟩)) rfl (stpV s) HLS.out ?_)
        | (at_builtin; refine wpList_app_row (R := lyS) rfl (.tmp 60) (.tmp 62) 30 rfl i0 _ 24 Try.underlying30 hi hz1 hz2 hz3 (by omega) rfl rfl HA8.out (some ⟨w5.heap.size, 0, none⟩) 1 1 [s] rfl rfl HR8.out (by have := HFN.out; simp; omega) (by have := HB5.out.size; have := HX8.out.size; have := HS4.out; omega) ?_; intro v6 w6 hr6 hg6 hn6; have HR6 := Lib.hid hr6.out; have HG6 := Lib.hid hg6.out; clear hr6 hg6 hn6))
       have HB6 : Hid (Below s4 w4 w6) := Lib.hid ((HB5.out.trans (HX8.out.mono (by have := HB5.out.size; have := HS4.out; omega))).trans ((Only.grown (S := fun k => _ = some k) HG6.out fun k hk => hk).below (fun k hk => (HA8.out.lt hk).1) (by have := HB5.out.size; have := HX8.out.size; have := HS4.out; omega)))
       go_roundg (n - (k + 1))
       case measure => omega
       case rel => exact ⟨k + 1, by first | go_num | (have := HKN.out; go_num), by omega, by omega, Lib.hid (by rw [HFE.out]; exact HR6.out), HB6⟩
      ·have he1 : (s.e == x) = false := by simp [he]
       have HFE : Hid ((S.take (k + 1)).filter (fun s => decide (s.e = x)) = (S.take k).filter (fun s => decide (s.e = x))) := Lib.hid (by rw [HTK.out, List.filter_append, List.filter_cons_of_neg (by simpa using he)]; simp)
       clear he
       go_wp2_with fail
       go_roundg (n - (k + 1))
       case measure => omega
       case rel => exact ⟨k + 1, by first | go_num | (have := HKN.out; go_num), by omega, by omega, Lib.hid (by rw [HFE.out]; exact HO5.out), HB5⟩
     ·obtain rfl : k = n := by omega
      have hltz : ¬ (k : Int) < (k : Int) := by omega
      have hT : S.take k = S := List.take_of_length_le (by rw [HNL.out]; exact Nat.le_refl _)
      rw [hT] at HO
      obtain ⟨A5, c5, e5, hr5, -⟩ := HO.out.reads
      obtain ⟨S2, hS2⟩ : ∃ S2, (S.filter fun s => decide (s.e = x)) = S2 := ⟨_, rfl⟩
      have HK2 : Hid (∀ p, (x, p) ∈ stpsL (g.m : Int) g.cp S ↔ (x, p) ∈ stpsL (g.m : Int) g.cp S2) := Lib.hid (by rw [← hS2]; exact stps_own _ _ S x)
      have HO2 : Hid (∀ s ∈ S2, okStp s) := Lib.hid (by rw [← hS2]; exact fun s hs => HOK.out s (List.mem_filter.1 hs).1)
      have hl2 : S2.length ≤ k := by rw [← hS2]; have h1 := List.length_filter_le (fun s : Stp => decide (s.e = x)) S; rw [HNL.out] at h1; exact h1
      rw [hS2] at e5 hr5
      obtain ⟨n5, hn5⟩ : ∃ n5, S2.length = n5 := ⟨_, rfl⟩
      rw [hn5] at e5 hl2
      subst e5
      have HN5 := Lib.hid hn5
      have HR5 := Lib.hid hr5
      have HBR : Hid (Below w2.heap.size w2 wr) := Lib.hid (HBC.out.trans (HB.out.mono (by have := HBC.out.size; have := HS4.out; omega)))
      have HF2 := Lib.hid (fun W (h : GrK W g L G) (h2 : RowAt lyS W A5 S2) => by have h9 := filled_any g L G A5 c5 S2 W h HSM.out HGW.out HV.out h2 HO2.out (by rw [HN5.out]; have := HL30.out; omega); rw [HN5.out, ← HGV.out] at h9; exact h9)
      have HJ1r := Lib.hid (HJ1.out.up (HB.out.mono (Nat.le_of_eq HS4.out)))
      clear HBC hr5 hn5 hT hS2 hl2 HO
      have HBC := HBR
      clear HBR
      go_upto_region 15 with (first
       | (clear HM4; refine wpList_load_is rfl 29 _ rfl (.pointer (some ⟨s0, 0, none⟩)) rfl GV (HLG.out _ HBC.out) ?_)
       | (go_at_call 7; refine (HF2.out _ (HKC.out.up HBC.out) HR5.out).mono ?_; rintro e w7 ⟨⟨j2, rfl, hq2, hj2, hb2, hm2⟩, hb⟩; have HQ2 := Lib.hid hq2; have HJ2 := Lib.hid hj2; have HJ1s := Lib.hid (HJ1r.out.up hb); clear hq2 hj2 hb2 hm2; have hB3 := Lib.hid (HBC.out.trans (hb.mono HBC.out.size)); clear hb HBC; have HBC := hB3; clear hB3))
      have hx : (Lit.int .i64 x).wf = true := WalkArith.wf_i64 bx
      have HX := Lib.hid hx
      obtain ⟨a1, a2, a3, a4⟩ := HQ1.out
      obtain ⟨b1, b2, b3, b4⟩ := HQ2.out
      have hM : untM (stpsL (g.m : Int) g.cp S) x = untM (stpsL (g.m : Int) g.cp S2) x := untM_same (stpsL_good _ _ _).pos (stpsL_good _ _ _).pos HK2.out
      have HC1 : Hid (∀ d W, LK W j1 k (stpsL (g.m : Int) g.cp S) → Calls Try.prog 8 #[.pointer (some ⟨j1.b, 0, none⟩), etyV (etyD x d)] W fun r w' => r = .returned (.int .i64 (chkL (g.m : Int) g.cy g.cm g.cp (stpsL (g.m : Int) g.cp S) x d)) ∧ Below W.heap.size W w') := Lib.hid (fun d W h => by have h9 := check_any (etyD x d) h HX.out; rw [a1, a2, a3, a4] at h9; exact h9)
      have HC2 : Hid (∀ d W, LK W j2 n5 (stpsL (g.m : Int) g.cp S2) → Calls Try.prog 8 #[.pointer (some ⟨j2.b, 0, none⟩), etyV (etyD x d)] W fun r w' => r = .returned (.int .i64 (chkL (g.m : Int) g.cy g.cm g.cp (stpsL (g.m : Int) g.cp S) x d)) ∧ Below W.heap.size W w') := Lib.hid (fun d W h => by have h9 := check_any (etyD x d) h HX.out; rw [b1, b2, b3, b4] at h9; rw [chkL_same d hM]; exact h9)
      have HPQ : Hid (chkL (g.m : Int) g.cy g.cm g.cp (stpsL (g.m : Int) g.cp S) x d2 = 12 → chkL (g.m : Int) g.cy g.cm g.cp (stpsL (g.m : Int) g.cp S) x d1 = 12) := Lib.hid (fun h => chkL_le h HD12.out)
      rw [HNL.out] at HJ1s
      rw [HN5.out] at HJ2
      clear hx a1 a2 a3 a4 b1 b2 b3 b4 hM
      have HC11 := Lib.hid (HC1.out d1)
      have HC12 := Lib.hid (HC1.out d2)
      have HC21 := Lib.hid (HC2.out d1)
      have HC22 := Lib.hid (HC2.out d2)
      clear HC1 HC2
      generalize chkL (g.m : Int) g.cy g.cm g.cp (stpsL (g.m : Int) g.cp S) x d1 = r1 at *
      generalize chkL (g.m : Int) g.cy g.cm g.cp (stpsL (g.m : Int) g.cp S) x d2 = r2 at *
      by_cases h12 : r2 = 12
      ·have h1 := HPQ.out h12
       subst h12 h1
       have HMa : True := trivial
       have HMb : True := trivial
       have HMc : True := trivial
       have HMd : True := trivial
       go_wp2_with (first
        | (refine wpList_build_is rfl 42 _ rfl [(1, .int .i64 x), (2, .int .i64 d1)] rfl (etyV (etyD x d1)) (etyD_build _ _ _) ?_)
        | (refine wpList_build_is rfl 42 _ rfl [(1, .int .i64 x), (2, .int .i64 d2)] rfl (etyV (etyD x d2)) (etyD_build _ _ _) ?_)
        | (refine wpList_build_if (by rfl) 42 _ rfl [(1, .int .i64 x), (2, .int .i64 d1)] rfl (etyV (etyD x d1)) (etyD_build _ _ _) ?_)
        | (refine wpList_build_if (by rfl) 42 _ rfl [(1, .int .i64 x), (2, .int .i64 d2)] rfl (etyV (etyD x d2)) (etyD_build _ _ _) ?_)
        | (clear HMa; go_at_call 8; refine (HC11.out _ HJ1s.out).mono ?_; rintro e w8 ⟨rfl, hb⟩; have HJ1t := Lib.hid (HJ1s.out.up hb); have HJ2t := Lib.hid (HJ2.out.up hb); have hB3 := Lib.hid (HBC.out.trans (hb.mono HBC.out.size)); clear hb HBC; have HBC := hB3; clear hB3)
        | (clear HMb; go_at_call 8; refine (HC12.out _ HJ1t.out).mono ?_; rintro e w9 ⟨rfl, hb⟩; have HJ2u := Lib.hid (HJ2t.out.up hb); have hB3 := Lib.hid (HBC.out.trans (hb.mono HBC.out.size)); clear hb HBC; have HBC := hB3; clear hB3)
        | (clear HMc; go_at_call 8; refine (HC21.out _ HJ2u.out).mono ?_; rintro e w10 ⟨rfl, hb⟩; have HJ2v := Lib.hid (HJ2u.out.up hb); have hB3 := Lib.hid (HBC.out.trans (hb.mono HBC.out.size)); clear hb HBC; have HBC := hB3; clear hB3)
        | (clear HMd; go_at_call 8; refine (HC22.out _ HJ2v.out).mono ?_; rintro e w11 ⟨rfl, hb⟩; have hB3 := Lib.hid (HBC.out.trans (hb.mono HBC.out.size)); clear hb HBC; have HBC := hB3; clear hB3))
       go_ret
       exact ⟨by first | rfl | simp, (by have h9 := HB2.out.trans (HBC.out.mono HB2.out.size); first | exact h9 | (rw [← HS0.out]; exact h9))⟩
      ·have h2b : (r2 != 12) = true := by simp [h12]
       have h2c : (r2 == 12) = false := by simp [h12]
       clear h12
       have HMa : True := trivial
       have HMb : True := trivial
       have HMc : True := trivial
       have HMd : True := trivial
       go_wp2_with (first
        | (refine wpList_build_is rfl 42 _ rfl [(1, .int .i64 x), (2, .int .i64 d1)] rfl (etyV (etyD x d1)) (etyD_build _ _ _) ?_)
        | (refine wpList_build_is rfl 42 _ rfl [(1, .int .i64 x), (2, .int .i64 d2)] rfl (etyV (etyD x d2)) (etyD_build _ _ _) ?_)
        | (refine wpList_build_if (by rfl) 42 _ rfl [(1, .int .i64 x), (2, .int .i64 d1)] rfl (etyV (etyD x d1)) (etyD_build _ _ _) ?_)
        | (refine wpList_build_if (by rfl) 42 _ rfl [(1, .int .i64 x), (2, .int .i64 d2)] rfl (etyV (etyD x d2)) (etyD_build _ _ _) ?_)
        | (clear HMa; go_at_call 8; refine (HC11.out _ HJ1s.out).mono ?_; rintro e w8 ⟨rfl, hb⟩; have HJ1t := Lib.hid (HJ1s.out.up hb); have HJ2t := Lib.hid (HJ2.out.up hb); have hB3 := Lib.hid (HBC.out.trans (hb.mono HBC.out.size)); clear hb HBC; have HBC := hB3; clear hB3)
        | (clear HMb; go_at_call 8; refine (HC12.out _ HJ1t.out).mono ?_; rintro e w9 ⟨rfl, hb⟩; have HJ2u := Lib.hid (HJ2t.out.up hb); have hB3 := Lib.hid (HBC.out.trans (hb.mono HBC.out.size)); clear hb HBC; have HBC := hB3; clear hB3)
        | (clear HMc; go_at_call 8; refine (HC21.out _ HJ2u.out).mono ?_; rintro e w10 ⟨rfl, hb⟩; have HJ2v := Lib.hid (HJ2u.out.up hb); have hB3 := Lib.hid (HBC.out.trans (hb.mono HBC.out.size)); clear hb HBC; have HBC := hB3; clear hB3)
        | (clear HMd; go_at_call 8; refine (HC22.out _ HJ2v.out).mono ?_; rintro e w11 ⟨rfl, hb⟩; have hB3 := Lib.hid (HBC.out.trans (hb.mono HBC.out.size)); clear hb HBC; have HBC := hB3; clear hB3))
       go_ret
       exact ⟨by first | rfl | simp, (by have h9 := HB2.out.trans (HBC.out.mono HB2.out.size); first | exact h9 | (rw [← HS0.out]; exact h9))⟩

  ·have hlz : decide ((n : Int) > 30) = true := decide_eq_true (by omega)
   have hly : decide ((30 : Int) < (n : Int)) = true := decide_eq_true (by omega)
   clear hl
   go_enter Try.func3, Try.ntmps3
   go_wp2_with (first
    | (go_at_call 4; refine (HAW.out _).mono ?_; rintro e w3 ⟨rfl, hb⟩; have hB3 := Lib.hid (HBC.out.trans (hb.mono HBC.out.size)); clear hb HBC; have HBC := hB3; clear hB3)
    | (clear HM1; refine wpList_load_if (by rfl) 29 _ rfl (.pointer (some ⟨s0, 0, none⟩)) rfl GV (HLG.out _ HBC.out) ?_)
    | (go_at_call 5; refine (HFW.out _ (HKC.out.up HBC.out).he).mono ?_; rintro e w3 ⟨rfl, hb⟩; have hB3 := Lib.hid (HBC.out.trans (hb.mono HBC.out.size)); clear hb HBC; have HBC := hB3; clear hB3))
   go_ret
   exact ⟨by first | rfl | simp, (by have h9 := HB2.out.trans (HBC.out.mono HB2.out.size); first | exact h9 | (rw [← HS0.out]; exact h9))⟩
open Go.ChangeShapes Go.WideShapes Go.ChangeAt Go.WideMaps Go.WideElems Go.RowKit Go.Deep Go.Joins
section
variable {H : Type} {enc : TypeId × Value → H} {P : Program} {W : World}
theorem open_nums {E I : TypeId} {fs : Array Field} {fuel : Nat} {cs : List Value} {x : DataW H × List MemPlace} (hE : P.underlying E = some (.struct fs))
  (hone : oneCellFields P fs = true) (hty : (fs.toList.all fun f => f.type == I) = true) (hI : P.underlying I = some (.int .i64))
  (hl : cs.length = fs.size) (h2 : DataW.trod enc P W 0 (fun _ => true) true fuel E cs = some x) :
  ∀ j, j < fs.size → ∃ z : Int, cs[j]? = some (.int .i64 z) ∧ (Lit.int .i64 z).wf = true := by
 intro j hj
 obtain ⟨xs, n', -, -, -, hxl, hff⟩ := DataW.trod_struct hE h2
 have hfj : fs[j]? = some fs[j] := Array.getElem?_eq_getElem hj
 obtain ⟨ho, hk1⟩ := hone_of hone j _ hfj
 have ht : fs[j].type = I := by
  have := List.all_eq_true.1 hty fs[j] (by simp)
  simpa using this
 have hxj : xs[j]? = some (xs[j]'(by omega)) := List.getElem?_eq_getElem (by omega)
 have h3 := hff j _ hfj
 rw [ho, hk1, ht, hxj] at h3
 obtain ⟨z, hz, -, hw⟩ := DataW.trod_int hI h3
 refine ⟨z, ?_, hw⟩
 have h5 : (cs.drop j).take 1 = [cs[j]'(by omega)] := by
  rw [List.drop_eq_getElem_cons (by omega)]; rfl
 rw [h5] at hz
 rw [List.getElem?_eq_getElem (by omega)]
 injection hz with hz
 rw [hz]
end
theorem cells21 {cs : List Value} (h : cs.length = 21) : ∃ c0 c1 c2 c3 c4 c5 c6 c7 c8 c9 c10 c11 c12 c13 c14 c15 c16 c17 c18 c19 c20, cs = [c0, c1, c2, c3, c4, c5, c6, c7, c8, c9, c10, c11, c12, c13, c14, c15, c16, c17, c18, c19, c20] := by
 match cs, h with
 | [c0, c1, c2, c3, c4, c5, c6, c7, c8, c9, c10, c11, c12, c13, c14, c15, c16, c17, c18, c19, c20], _ => exact ⟨c0, c1, c2, c3, c4, c5, c6, c7, c8, c9, c10, c11, c12, c13, c14, c15, c16, c17, c18, c19, c20, rfl⟩
section
variable {H : Type} {enc : TypeId × Value → H} {W : World}
set_option maxRecDepth 100000 in
theorem open_igrp {b0 : Nat} {v : Value} {d : DataW H} {p : List MemPlace} (hval : Value.okWide Try.prog W .any b0 29 v) (h : DataW.Trod enc Try.prog W 0 (fun _ => true) true 29 v d p) :
  ∃ g L G, v = grpV g ∧ GrK W g L G ∧ GrW g L G ∧ g.m ≤ 9223372036854775807 := by
 obtain ⟨cs, rfl, hsz⟩ := okWide_struct Try.underlying29 hval
 obtain ⟨fuel, hf⟩ := h
 have hcs : (Value.agg cs).cells.toList = cs.toList := by simp [Value.cells]
 rw [hcs] at hf
 obtain ⟨xs, n', -, -, hlen, hxl, hff⟩ := DataW.trod_struct Try.underlying29 hf
 have hC : Try.prog.cellsOf 29 = 21 := by kernel_rfl
 rw [hC] at hlen
 obtain ⟨c0, c1, c2, c3, c4, c5, c6, c7, c8, c9, c10, c11, c12, c13, c14, c15, c16, c17, c18, c19, c20, e21⟩ := cells21 hlen
 have k9 : Try.prog.cellsOf 9 = 1 := by kernel_rfl
 have kc : Try.prog.cellsOf 23 = 3 := by kernel_rfl
 have ka : Try.prog.cellsOf 24 = 1 := by kernel_rfl
 have kr : Try.prog.cellsOf 26 = 15 := by kernel_rfl
 have ke : Try.prog.cellsOf 27 = 1 := by kernel_rfl
 have hxl' : xs.length = 5 := hxl
 have hget : ∀ i, i < 5 → ∃ y, xs[i]? = some y := fun i hi => ⟨_, List.getElem?_eq_getElem (by omega)⟩
 have h0 : DataW.trod enc Try.prog W 0 (fun _ => true) true n' 9 ((cs.toList.drop 0).take (Try.prog.cellsOf 9)) = xs[0]? := hff 0 _ rfl
 have h1 : DataW.trod enc Try.prog W 0 (fun _ => true) true n' 23 ((cs.toList.drop 1).take (Try.prog.cellsOf 23)) = xs[1]? := hff 1 _ rfl
 have h2 : DataW.trod enc Try.prog W 0 (fun _ => true) true n' 24 ((cs.toList.drop 4).take (Try.prog.cellsOf 24)) = xs[2]? := hff 2 _ rfl
 have h3 : DataW.trod enc Try.prog W 0 (fun _ => true) true n' 26 ((cs.toList.drop 5).take (Try.prog.cellsOf 26)) = xs[3]? := hff 3 _ rfl
 have h4 : DataW.trod enc Try.prog W 0 (fun _ => true) true n' 27 ((cs.toList.drop 20).take (Try.prog.cellsOf 27)) = xs[4]? := hff 4 _ rfl
 obtain ⟨y0, e0⟩ := hget 0 (by omega)
 obtain ⟨y1, e1⟩ := hget 1 (by omega)
 obtain ⟨y2, e2⟩ := hget 2 (by omega)
 obtain ⟨y3, e3⟩ := hget 3 (by omega)
 obtain ⟨y4, e4⟩ := hget 4 (by omega)
 rw [e0, k9, e21] at h0
 rw [e1, kc, e21] at h1
 rw [e2, ka, e21] at h2
 rw [e3, kr, e21] at h3
 rw [e4, ke, e21] at h4
 have n1 := open_nums (cs := [c1, c2, c3]) Try.underlying23 (by kernel_rfl) (by kernel_rfl) Try.underlying3 rfl h1
 have n3 := open_nums (cs := [c5, c6, c7, c8, c9, c10, c11, c12, c13, c14, c15, c16, c17, c18, c19]) Try.underlying26 (by kernel_rfl) (by kernel_rfl) Try.underlying3 rfl h3
 obtain ⟨cur, q0, -, bc⟩ := DataW.trod_string Try.underlying9 h0
 obtain ⟨A, n, c, L, q4, ln, -, hz, wa⟩ := open_waccs Try.underlying24 Try.underlying71 (by kernel_rfl) (by kernel_rfl) (by kernel_rfl) Try.underlying3 h2
 obtain ⟨X, m, cap, G, q20, lg, hmx, he, hk, hb⟩ := open_entsC Try.underlying27 h4
 obtain ⟨z1, p1, -⟩ := n1 0 (by decide)
 obtain ⟨z2, p2, -⟩ := n1 1 (by decide)
 obtain ⟨z3, p3, -⟩ := n1 2 (by decide)
 obtain ⟨r0, s0, w0⟩ := n3 0 (by decide)
 obtain ⟨r1, s1, w1⟩ := n3 1 (by decide)
 obtain ⟨r2, s2, w2⟩ := n3 2 (by decide)
 obtain ⟨r3, s3, w3⟩ := n3 3 (by decide)
 obtain ⟨r4, s4, w4⟩ := n3 4 (by decide)
 obtain ⟨r5, s5, w5⟩ := n3 5 (by decide)
 obtain ⟨r6, s6, w6⟩ := n3 6 (by decide)
 obtain ⟨r7, s7, w7⟩ := n3 7 (by decide)
 obtain ⟨r8, s8, w8⟩ := n3 8 (by decide)
 obtain ⟨r9, s9, w9⟩ := n3 9 (by decide)
 obtain ⟨r10, s10, w10⟩ := n3 10 (by decide)
 obtain ⟨r11, s11, w11⟩ := n3 11 (by decide)
 obtain ⟨r12, s12, w12⟩ := n3 12 (by decide)
 obtain ⟨r13, s13, w13⟩ := n3 13 (by decide)
 obtain ⟨r14, s14, w14⟩ := n3 14 (by decide)
 have a0 : c0 = .string cur := by simpa using q0
 have a4 : c4 = .slice A n c := by simpa using q4
 have a20 : c20 = .slice X m cap := by simpa using q20
 have b1 : c1 = .int .i64 z1 := by simpa using p1
 have b2 : c2 = .int .i64 z2 := by simpa using p2
 have b3 : c3 = .int .i64 z3 := by simpa using p3
 have t0 : c5 = .int .i64 r0 := by simpa using s0
 have t1 : c6 = .int .i64 r1 := by simpa using s1
 have t2 : c7 = .int .i64 r2 := by simpa using s2
 have t3 : c8 = .int .i64 r3 := by simpa using s3
 have t4 : c9 = .int .i64 r4 := by simpa using s4
 have t5 : c10 = .int .i64 r5 := by simpa using s5
 have t6 : c11 = .int .i64 r6 := by simpa using s6
 have t7 : c12 = .int .i64 r7 := by simpa using s7
 have t8 : c13 = .int .i64 r8 := by simpa using s8
 have t9 : c14 = .int .i64 r9 := by simpa using s9
 have t10 : c15 = .int .i64 r10 := by simpa using s10
 have t11 : c16 = .int .i64 r11 := by simpa using s11
 have t12 : c17 = .int .i64 r12 := by simpa using s12
 have t13 : c18 = .int .i64 r13 := by simpa using s13
 have t14 : c19 = .int .i64 r14 := by simpa using s14
 subst a0 a4 a20 b1 b2 b3 t0 t1 t2 t3 t4 t5 t6 t7 t8 t9 t10 t11 t12 t13 t14
 refine ⟨⟨cur, z1, z2, z3, A, n, c, r0, r1, r2, r3, r4, r5, r6, r7, r8, r9, r10, r11, r12, r13, r14, X, m, cap⟩, L, G, ?_, ⟨ln, lg, hz, he, hk⟩, ⟨bc, fun x hx => ?_, hb⟩, hmx⟩
 ·rw [← Array.toArray_toList (xs := cs), e21]
 ·simp only [Grp.R, List.mem_cons, List.mem_nil_iff, or_false] at hx
  rcases hx with rfl | rfl | rfl | rfl | rfl | rfl | rfl | rfl | rfl | rfl | rfl | rfl | rfl | rfl | rfl
  ·exact w0
  ·exact w1
  ·exact w2
  ·exact w3
  ·exact w4
  ·exact w5
  ·exact w6
  ·exact w7
  ·exact w8
  ·exact w9
  ·exact w10
  ·exact w11
  ·exact w12
  ·exact w13
  ·exact w14
end
open Go.ChangeShapes Go.WideShapes Go.ChangeAt Go.WideMaps Go.WideElems Go.RowKit Go.Deep Go.Joins
theorem list_of_all {α : Type} {S : Nat → α → Prop} : ∀ n : Nat, (∀ k, k < n → ∃ a, S k a) → ∃ L : List α, L.length = n ∧ ∀ k, k < n → ∃ a, L[k]? = some a ∧ S k a
 | 0, _ => ⟨[], rfl, fun k h => absurd h (by omega)⟩
 | n + 1, h => by
  obtain ⟨L, hl, hL⟩ := list_of_all n fun k hk => h k (by omega)
  obtain ⟨a, ha⟩ := h n (by omega)
  refine ⟨L ++ [a], by simp [hl], fun k hk => ?_⟩
  rcases Nat.lt_or_ge k n with h1 | h1
  ·obtain ⟨b, hb, hs⟩ := hL k h1
   exact ⟨b, by rw [List.getElem?_append_left (by omega)]; exact hb, hs⟩
  ·obtain rfl : k = n := by omega
   exact ⟨a, by rw [List.getElem?_append_right (by omega), hl]; simp, ha⟩
section
variable {H : Type} {enc : TypeId × Value → H} {P : Program} {W : World}
theorem open_rowsG {α : Type} (R : Lay α) {T E : TypeId} {fuel : Nat} {cs : List Value} {x : DataW H × List MemPlace} (hT : P.underlying T = some (.slice E)) (hC : P.cellsOf E = R.s) (q : α → Prop)
  (hread : ∀ fuel cs x, DataW.trod enc P W 0 (fun _ => true) true fuel E cs = some x → ∃ a, cs = R.cel a ∧ q a)
  (hf : DataW.trod enc P W 0 (fun _ => true) true fuel T cs = some x) :
  ∃ A len cap L, cs = [.slice A len cap] ∧ L.length = len ∧ len ≤ 9223372036854775807 ∧ RowAt R W A L ∧ ∀ a ∈ L, q a := by
 rcases open_slice hT hf with ⟨hcs, -⟩ | ⟨a, len, cap, m, n, D, Pl, hcs, -, hl, hm, hmm, -, hx⟩
 ·exact ⟨none, 0, 0, [], hcs, rfl, by omega, RowAt.nil, fun a ha => by cases ha⟩
 ·simp only [if_true] at hmm
  subst hmm
  unfold maxLen at hm
  have key : ∀ k, k < len → ∃ y : α, (∀ j v, (R.cel y)[j]? = some v → W.cell? (a.add (k * R.s + j)) = some v) ∧ q y := by
   intro k hk
   obtain ⟨cs', h1, h2⟩ := hx k (by omega)
   rw [hC] at h1
   obtain ⟨_, hlen, hcell⟩ := World.cells?_some h1
   obtain ⟨y, rfl, hq⟩ := hread _ _ _ h2
   refine ⟨y, fun j v hj => ?_, hq⟩
   have hjl : j < (R.cel y).length := (List.getElem?_eq_some_iff.1 hj).1
   have h4 := hcell j (by rw [R.len] at hjl; omega)
   rw [add_add] at h4
   rw [h4, hj]
  obtain ⟨L, hLl, hL⟩ := list_of_all len key
  obtain ⟨b, off, spot⟩ := a
  refine ⟨_, len, _, L, hcs, hLl, by omega, fun h0 => ?_, fun y hy => ?_⟩
  ·rw [hLl] at h0
   obtain ⟨y0, hy0, hc0, -⟩ := hL 0 h0
   have hz0 := hc0 0 _ (List.getElem?_eq_getElem (by rw [R.len]; exact R.pos))
   have hspot : spot = none := by simpa [Addr.add] using World.cell?_spot hz0
   subst hspot
   have hlt : b < W.heap.size := by
    rcases Nat.lt_or_ge b W.heap.size with hlt | hge
    ·exact hlt
    ·unfold World.cell? at hz0
     rw [show (Addr.add ⟨b, off, none⟩ (0 * R.s + 0)).block = b from by rw [block_add], Array.getElem?_eq_none hge] at hz0
     simp at hz0
   refine ⟨b, off, rfl, hlt, fun j v hj => ?_⟩
   have hjl : j < len * R.s := by
    rw [← hLl, ← R.all_len]
    exact (List.getElem?_eq_some_iff.1 hj).1
   have hs := R.pos
   have hi : j / R.s < len := Nat.div_lt_of_lt_mul (by rw [Nat.mul_comm]; exact hjl)
   obtain ⟨y, hy, hc, -⟩ := hL (j / R.s) hi
   have hr : j % R.s < R.s := Nat.mod_lt _ hs
   have he : j / R.s * R.s + j % R.s = j := by rw [Nat.mul_comm]; exact Nat.div_add_mod _ _
   have h5 := hc (j % R.s) v (by rw [← R.get L (j / R.s) y hy _ hr, he]; exact hj)
   rw [he, Go.WideShapes.add_plain] at h5
   exact h5
  ·obtain ⟨k, hk⟩ := List.getElem?_of_mem hy
   have hkl : k < len := by rw [← hLl]; exact (List.getElem?_eq_some_iff.1 hk).1
   obtain ⟨z, hz, -, hq⟩ := hL k hkl
   rw [hk] at hz
   injection hz with hz
   subst hz
   exact hq
end
theorem cells3R {cs : List Value} (h : cs.length = 3) : ∃ c0 c1 c2, cs = [c0, c1, c2] := by
 match cs, h with
 | [c0, c1, c2], _ => exact ⟨c0, c1, c2, rfl⟩
section
variable {H : Type} {enc : TypeId × Value → H} {W : World}
set_option maxRecDepth 100000 in
theorem open_stpC {fuel : Nat} {cs : List Value} {x : DataW H × List MemPlace} (hf : DataW.trod enc Try.prog W 0 (fun _ => true) true fuel 37 cs = some x) : ∃ a : Stp, cs = stpC a ∧ okStp a := by
 obtain ⟨xs, n', -, -, hlen, hxl, hff⟩ := DataW.trod_struct Try.underlying37 hf
 have hC : Try.prog.cellsOf 37 = 3 := by kernel_rfl
 rw [hC] at hlen
 obtain ⟨c0, c1, c2, e7⟩ := cells3R hlen
 have hxl' : xs.length = 3 := hxl
 have hget : ∀ i, i < 3 → ∃ y, xs[i]? = some y := fun i hi => ⟨_, List.getElem?_eq_getElem (by omega)⟩
 have kb : Try.prog.cellsOf 4 = 1 := by kernel_rfl
 have ki : Try.prog.cellsOf 3 = 1 := by kernel_rfl
 have h0 : DataW.trod enc Try.prog W 0 (fun _ => true) true n' 3 ((cs.drop 0).take (Try.prog.cellsOf 3)) = xs[0]? := hff 0 _ rfl
 obtain ⟨y0, e0⟩ := hget 0 (by omega)
 rw [e0, ki, e7] at h0
 have h1 : DataW.trod enc Try.prog W 0 (fun _ => true) true n' 3 ((cs.drop 1).take (Try.prog.cellsOf 3)) = xs[1]? := hff 1 _ rfl
 obtain ⟨y1, e1⟩ := hget 1 (by omega)
 rw [e1, ki, e7] at h1
 have h2 : DataW.trod enc Try.prog W 0 (fun _ => true) true n' 4 ((cs.drop 2).take (Try.prog.cellsOf 4)) = xs[2]? := hff 2 _ rfl
 obtain ⟨y2, e2⟩ := hget 2 (by omega)
 rw [e2, kb, e7] at h2
 obtain ⟨z0, q0, -, w0⟩ := DataW.trod_int Try.underlying3 h0
 have a0 : c0 = .int .i64 z0 := by simpa using q0
 obtain ⟨z1, q1, -, w1⟩ := DataW.trod_int Try.underlying3 h1
 have a1 : c1 = .int .i64 z1 := by simpa using q1
 obtain ⟨z2, q2, -⟩ := DataW.trod_bool Try.underlying4 h2
 have a2 : c2 = .bool z2 := by simpa using q2
 subst a0 a1 a2
 exact ⟨⟨z0, z1, z2⟩, e7, w0, w1⟩
set_option maxRecDepth 100000 in
theorem open_istps {b0 : Nat} {v : Value} {d : DataW H} {p : List MemPlace} (hval : Value.okWide Try.prog W .any b0 30 v) (h : DataW.Trod enc Try.prog W 0 (fun _ => true) true 30 v d p) :
  ∃ A len c S, v = .slice A len c ∧ S.length = len ∧ len ≤ 9223372036854775807 ∧ RowAt lyS W A S ∧ ∀ s ∈ S, okStp s := by
 obtain ⟨a0, len, cap, rfl⟩ := okWide_slice Try.underlying30 hval
 obtain ⟨fuel, hf⟩ := h
 obtain ⟨A, len', c, S, hcs, hl, hm, hr, hq⟩ := open_rowsG lyS Try.underlying30 (by kernel_rfl) okStp (fun _ _ _ h => open_stpC h) hf
 simp [Value.cells] at hcs
 obtain ⟨rfl, rfl, rfl⟩ := hcs
 exact ⟨_, _, _, S, rfl, hl, hm, hr, hq⟩
end
theorem three_ofA {α : Type} (l : List α) (h : (⟨l⟩ : Array α).size = 3) : ∃ a b c, l = [a, b, c] := by
 match l, h with
 | [a, b, c], _ => exact ⟨a, b, c, rfl⟩
section
variable {H : Type} {enc : TypeId × Value → H} {P : Program} {w : World} {r : Reach} {b0 base : Nat} {t e : TypeId} {k : IntKind} {spare : Nat → Bool} {held : Bool} {v : Value} {d : DataW H} {ps : List MemPlace}
theorem open_iarr3 (ht : P.underlying t = some (.array 3 e)) (he : P.underlying e = some (.int k)) (hce : P.cellsOf e = 1) (hct : P.cellsOf t = 3) (hval : Value.okWide P w r b0 t v) (hd : DataW.Trod enc P w base spare held t v d ps) :
  ∃ x y z, v = .agg #[.int k x, .int k y, .int k z] ∧ (Lit.int k x).wf = true ∧ (Lit.int k y).wf = true ∧ (Lit.int k z).wf = true := by
 obtain ⟨cs, rfl, hsz, _⟩ : ∃ cs, v = .agg cs ∧ cs.size = P.cellsOf t ∧ Row.okWide P w r b0 t cs := by
  simpa [Value.okWide, ht] using hval
 rw [hct] at hsz
 obtain ⟨l⟩ := cs
 obtain ⟨c0, c1, c2, rfl⟩ := three_ofA l hsz
 obtain ⟨fuel, hf⟩ := hd
 obtain ⟨xs, m, _, hx, _, hl, hel⟩ := DataW.trod_array ht hf
 match xs, hl, hx, hel with
 | [q0, q1, q2], _, hx, hel =>
  have e0 := hel 0 (by omega)
  have e1 := hel 1 (by omega)
  have e2 := hel 2 (by omega)
  rw [hce] at e0 e1 e2
  obtain ⟨x, h0, h0', w0⟩ := DataW.trod_int he (by simpa [Value.cells] using e0 : DataW.trod enc P w base spare held m e [c0] = some q0)
  obtain ⟨y, h1, h1', w1⟩ := DataW.trod_int he (by simpa [Value.cells] using e1 : DataW.trod enc P w base spare held m e [c1] = some q1)
  obtain ⟨z, h2, h2', w2⟩ := DataW.trod_int he (by simpa [Value.cells] using e2 : DataW.trod enc P w base spare held m e [c2] = some q2)
  simp at h0 h1 h2
  subst h0 h1 h2
  exact ⟨x, y, z, rfl, w0, w1, w2⟩
end
end Go.Proofs.Ytaeccljkmijpaaa
