/- IntegerSums: for every two texts the statement about Add, Sub, Neg and Cmp returns true. -/
import Derived.Test.YtbfbijokhlkekaaDoorLawProducts
import Derived.Test.YtbfbijokhlkekaaDoorRefSubI
namespace Go.Proofs.YtbfbijokhlkekaaDoor
open Go.RowKit

set_option maxRecDepth 20000 in
set_option maxHeartbeats 12800000 in
theorem law_sums (s t : ByteArray) (w : World) (htab : Tab w.heap.size w) :
    Calls Tryd.prog 5 #[.string s, .string t] w fun e w' => e = .returned (.bool true) ∧ Below w.heap.size w w' := by
  have HT := Lib.hid htab
  have HBO := Lib.hid (fun W => both_any s t W)
  clear htab
  go_enter Tryd.func5, Tryd.ntmps5
  go_wp2_with fail
  refine (awake_any w HT.out).mono ?_
  rintro e w1 ⟨rfl, hb1⟩
  go_wp2_with fail
  refine (HBO.out _).mono ?_
  rintro e w2 ⟨k1, A1, c1, L1, k2, A2, c2, L2, k3, A3, c3, L3, k4, A4, c4, L4, ok, rfl, I1, I2, M1, M2, hl1, hl2, hl3, hl4, hok, hb2⟩
  have hb12 := hb1.trans (Below.less hb2 hb1.size)
  clear hb1 hb2
  have F := four_boxes w2 (.bool k1) (.slice A1 (List.length L1) c1) (.bool k2) (.slice A2 (List.length L2) c2) (.bool k3) (.slice A3 (List.length L3) c3) (.bool k4) (.slice A4 (List.length L4) c4) 25 25 31 31
  cases ok
  · have HB12 := Lib.hid hb12
    clear hb12
    go_wp2_with fail
    go_ret
    exact ⟨rfl, HB12.out.trans (Below.less F.2.2.2.2.2 HB12.out.size)⟩
  · obtain ⟨e1, e2, q1, q2, q3, q4, q5, q6, q7, q8⟩ := hok rfl
    have HZ1 := Lib.hid (textZ_I q1 q2)
    have HZ2 := Lib.hid (textZ_I q3 q4)
    have HZ3 := Lib.hid (textZ_R q5 q6)
    have HZ4 := Lib.hid (textZ_R q7 q8)
    clear hok e1 e2 q1 q2 q3 q4 q5 q6 q7 q8
    go_wp2_with fail
    change Code.wp Tryd.prog _ _ _ ((((w2.alloc (.cells #[.bool k1, .slice A1 (List.length L1) c1] 25)).alloc (.cells #[.bool k2, .slice A2 (List.length L2) c2] 25)).alloc (.cells #[.bool k3, .slice A3 (List.length L3) c3] 31)).alloc (.cells #[.bool k4, .slice A4 (List.length L4) c4] 31))
    generalize (((w2.alloc (.cells #[.bool k1, .slice A1 (List.length L1) c1] 25)).alloc (.cells #[.bool k2, .slice A2 (List.length L2) c2] 25)).alloc (.cells #[.bool k3, .slice A3 (List.length L3) c3] 31)).alloc (.cells #[.bool k4, .slice A4 (List.length L4) c4] 31) = W at *
    obtain ⟨b0, b1, b2, b3, hsz, hbw⟩ := F
    have HI1 := Lib.hid (I1.up hbw)
    have HI2 := Lib.hid (I2.up hbw)
    have HM1 := Lib.hid (M1.up hbw)
    have HM2 := Lib.hid (M2.up hbw)
    have hWw := hb12.trans (Below.less hbw hb12.size)
    have HWW := Lib.hid hWw
    have HTW := Lib.hid (tab_up HT.out hWw)
    have hy0 := b0.c0
    have hy1 := b0.c1
    have hy2 := b1.c0
    have hy3 := b1.c1
    have hy4 := b2.c0
    have hy5 := b2.c1
    have hy6 := b3.c0
    have hy7 := b3.c1
    have hlt0 : w2.heap.size < W.heap.size := by omega
    have hlt1 : w2.heap.size + 1 < W.heap.size := by omega
    have hlt2 : w2.heap.size + 1 + 1 < W.heap.size := by omega
    have hlt3 : w2.heap.size + 1 + 1 + 1 < W.heap.size := by omega
    have HC := Lib.hid (below_drew (Below.refl W.heap.size W))
    have hcm := fun (V : World) h1 h2 => cmp_any k1 k2 A1 A2 c1 c2 L1 L2 V (by omega) (by omega) h1 h2
    have hrc := fun (V : World) h1 h2 => rcmp_any k3 k4 A3 A4 c3 c4 L3 L4 V (by omega) (by omega) h1 h2
    rw [HZ1.out, HZ2.out] at hcm
    rw [HZ3.out, HZ4.out] at hrc
    generalize hcz : cmpI (textZ s.data.toList) (textZ t.data.toList) = cz at hcm hrc
    have HCM := Lib.hid hcm
    have HRC := Lib.hid hrc
    clear hcm hrc hcz
    clear b0 b1 b2 b3 hsz hbw I1 I2 M1 M2 hb12 hWw
    have hf0 := hy0
    have hf1 := hy1
    have hf2 := hy2
    have hf3 := hy3
    have hf4 := hy4
    have hf5 := hy5
    have hf6 := hy6
    have hf7 := hy7
    go_region_held3 (fun w' => w'.cell? ⟨w2.heap.size, 0, none⟩ = some (.bool k1) ∧ w'.cell? ⟨w2.heap.size, 1, none⟩ = some (.slice A1 (List.length L1) c1) ∧
        w'.cell? ⟨w2.heap.size + 1, 0, none⟩ = some (.bool k2) ∧ w'.cell? ⟨w2.heap.size + 1, 1, none⟩ = some (.slice A2 (List.length L2) c2) ∧
        w'.cell? ⟨w2.heap.size + 1 + 1, 0, none⟩ = some (.bool k3) ∧ w'.cell? ⟨w2.heap.size + 1 + 1, 1, none⟩ = some (.slice A3 (List.length L3) c3) ∧
        w'.cell? ⟨w2.heap.size + 1 + 1 + 1, 0, none⟩ = some (.bool k4) ∧ w'.cell? ⟨w2.heap.size + 1 + 1 + 1, 1, none⟩ = some (.slice A4 (List.length L4) c4)) (go_keep)
      (first
        | (go_at_call 24; (with_reducible refine (add_any k1 k2 A1 A2 c1 c2 L1 L2 _ (by omega) (by omega) (HI1.out.up HC.out) (HI2.out.up HC.out)).mono ?_); rintro e w4 ⟨kx, Ax, cx, X1, rfl, hix, hzx, hlx1, hb4⟩; have HX1 := Lib.hid hix; have HZX1 := Lib.hid hzx; clear hix hzx; (try (have H9 := Lib.hid (RefR.up HY1.out hb4); clear HY1; have HY1 := H9; clear H9)); have HC9 := Lib.hid (below_then HC.out hb4 HC.out.size); clear HC hf0 hf1 hf2 hf3 hf4 hf5 hf6 hf7; have HC := HC9; clear HC9; have hf0 := (below_atB (i := 0) HC.out hlt0).trans hy0; have hf1 := (below_atB (i := 1) HC.out hlt0).trans hy1; have hf2 := (below_atB (i := 0) HC.out hlt1).trans hy2; have hf3 := (below_atB (i := 1) HC.out hlt1).trans hy3; have hf4 := (below_atB (i := 0) HC.out hlt2).trans hy4; have hf5 := (below_atB (i := 1) HC.out hlt2).trans hy5; have hf6 := (below_atB (i := 0) HC.out hlt3).trans hy6; have hf7 := (below_atB (i := 1) HC.out hlt3).trans hy7; clear hb4)
        | (go_at_call 25; (with_reducible refine (raddI_any k3 k4 A3 A4 c3 c4 L3 L4 _ (by omega) (by omega) (HM1.out.up HC.out) (HM2.out.up HC.out)).mono ?_); rintro e w4 ⟨ky, Ay, cy, Y1, rfl, hiy, hzy, hly1, hb4⟩; have HY1 := Lib.hid hiy; have HZY1 := Lib.hid hzy; clear hiy hzy; (try (have H9 := Lib.hid (IntR.up HX1.out hb4); clear HX1; have HX1 := H9; clear H9)); have HC9 := Lib.hid (below_then HC.out hb4 HC.out.size); clear HC hf0 hf1 hf2 hf3 hf4 hf5 hf6 hf7; have HC := HC9; clear HC9; have hf0 := (below_atB (i := 0) HC.out hlt0).trans hy0; have hf1 := (below_atB (i := 1) HC.out hlt0).trans hy1; have hf2 := (below_atB (i := 0) HC.out hlt1).trans hy2; have hf3 := (below_atB (i := 1) HC.out hlt1).trans hy3; have hf4 := (below_atB (i := 0) HC.out hlt2).trans hy4; have hf5 := (below_atB (i := 1) HC.out hlt2).trans hy5; have hf6 := (below_atB (i := 0) HC.out hlt3).trans hy6; have hf7 := (below_atB (i := 1) HC.out hlt3).trans hy7; clear hb4)
        | (go_at_call 26; (with_reducible refine (sub_any k1 k2 A1 A2 c1 c2 L1 L2 _ (by omega) (by omega) (HI1.out.up HC.out) (HI2.out.up HC.out)).mono ?_); rintro e w4 ⟨ku, Au, cu, X2, rfl, hix, hzx, hlx2, hb4⟩; have HX2 := Lib.hid hix; have HZX2 := Lib.hid hzx; clear hix hzx; (try (have H9 := Lib.hid (RefR.up HY2.out hb4); clear HY2; have HY2 := H9; clear H9)); have HC9 := Lib.hid (below_then HC.out hb4 HC.out.size); clear HC hf0 hf1 hf2 hf3 hf4 hf5 hf6 hf7; have HC := HC9; clear HC9; have hf0 := (below_atB (i := 0) HC.out hlt0).trans hy0; have hf1 := (below_atB (i := 1) HC.out hlt0).trans hy1; have hf2 := (below_atB (i := 0) HC.out hlt1).trans hy2; have hf3 := (below_atB (i := 1) HC.out hlt1).trans hy3; have hf4 := (below_atB (i := 0) HC.out hlt2).trans hy4; have hf5 := (below_atB (i := 1) HC.out hlt2).trans hy5; have hf6 := (below_atB (i := 0) HC.out hlt3).trans hy6; have hf7 := (below_atB (i := 1) HC.out hlt3).trans hy7; clear hb4)
        | (go_at_call 27; (with_reducible refine (rsubI_any k3 k4 A3 A4 c3 c4 L3 L4 _ (by omega) (by omega) (HM1.out.up HC.out) (HM2.out.up HC.out)).mono ?_); rintro e w4 ⟨kv, Av, cv, Y2, rfl, hiy, hzy, hly2, hb4⟩; have HY2 := Lib.hid hiy; have HZY2 := Lib.hid hzy; clear hiy hzy; (try (have H9 := Lib.hid (IntR.up HX2.out hb4); clear HX2; have HX2 := H9; clear H9)); have HC9 := Lib.hid (below_then HC.out hb4 HC.out.size); clear HC hf0 hf1 hf2 hf3 hf4 hf5 hf6 hf7; have HC := HC9; clear HC9; have hf0 := (below_atB (i := 0) HC.out hlt0).trans hy0; have hf1 := (below_atB (i := 1) HC.out hlt0).trans hy1; have hf2 := (below_atB (i := 0) HC.out hlt1).trans hy2; have hf3 := (below_atB (i := 1) HC.out hlt1).trans hy3; have hf4 := (below_atB (i := 0) HC.out hlt2).trans hy4; have hf5 := (below_atB (i := 1) HC.out hlt2).trans hy5; have hf6 := (below_atB (i := 0) HC.out hlt3).trans hy6; have hf7 := (below_atB (i := 1) HC.out hlt3).trans hy7; clear hb4)
        | (go_at_call 28; (with_reducible refine (neg_any k1 A1 c1 L1 _ (by omega) (HI1.out.up HC.out)).mono ?_); rintro e w4 ⟨kn, An, cn, rfl, hix, hzx, hb4⟩; have HX3 := Lib.hid hix; have HZX3 := Lib.hid hzx; clear hix hzx; (try (have H9 := Lib.hid (RefR.up HY3.out hb4); clear HY3; have HY3 := H9; clear H9)); have HC9 := Lib.hid (below_then HC.out hb4 HC.out.size); clear HC hf0 hf1 hf2 hf3 hf4 hf5 hf6 hf7; have HC := HC9; clear HC9; have hf0 := (below_atB (i := 0) HC.out hlt0).trans hy0; have hf1 := (below_atB (i := 1) HC.out hlt0).trans hy1; have hf2 := (below_atB (i := 0) HC.out hlt1).trans hy2; have hf3 := (below_atB (i := 1) HC.out hlt1).trans hy3; have hf4 := (below_atB (i := 0) HC.out hlt2).trans hy4; have hf5 := (below_atB (i := 1) HC.out hlt2).trans hy5; have hf6 := (below_atB (i := 0) HC.out hlt3).trans hy6; have hf7 := (below_atB (i := 1) HC.out hlt3).trans hy7; clear hb4)
        | (go_at_call 29; (with_reducible refine (rneg_any k3 A3 c3 L3 _ (by omega) (HM1.out.up HC.out)).mono ?_); rintro e w4 ⟨km, Am, cm, rfl, hiy, hzy, hb4⟩; have HY3 := Lib.hid hiy; have HZY3 := Lib.hid hzy; clear hiy hzy; (try (have H9 := Lib.hid (IntR.up HX3.out hb4); clear HX3; have HX3 := H9; clear H9)); have HC9 := Lib.hid (below_then HC.out hb4 HC.out.size); clear HC hf0 hf1 hf2 hf3 hf4 hf5 hf6 hf7; have HC := HC9; clear HC9; have hf0 := (below_atB (i := 0) HC.out hlt0).trans hy0; have hf1 := (below_atB (i := 1) HC.out hlt0).trans hy1; have hf2 := (below_atB (i := 0) HC.out hlt1).trans hy2; have hf3 := (below_atB (i := 1) HC.out hlt1).trans hy3; have hf4 := (below_atB (i := 0) HC.out hlt2).trans hy4; have hf5 := (below_atB (i := 1) HC.out hlt2).trans hy5; have hf6 := (below_atB (i := 0) HC.out hlt3).trans hy6; have hf7 := (below_atB (i := 1) HC.out hlt3).trans hy7; clear hb4)
        | (go_at_call 30; (with_reducible refine (HCM.out _ (HI1.out.up HC.out) (HI2.out.up HC.out)).mono ?_); rintro e w4 ⟨rfl, hb4⟩; have HC9 := Lib.hid (below_then HC.out hb4 HC.out.size); clear HC hf0 hf1 hf2 hf3 hf4 hf5 hf6 hf7; have HC := HC9; clear HC9; have hf0 := (below_atB (i := 0) HC.out hlt0).trans hy0; have hf1 := (below_atB (i := 1) HC.out hlt0).trans hy1; have hf2 := (below_atB (i := 0) HC.out hlt1).trans hy2; have hf3 := (below_atB (i := 1) HC.out hlt1).trans hy3; have hf4 := (below_atB (i := 0) HC.out hlt2).trans hy4; have hf5 := (below_atB (i := 1) HC.out hlt2).trans hy5; have hf6 := (below_atB (i := 0) HC.out hlt3).trans hy6; have hf7 := (below_atB (i := 1) HC.out hlt3).trans hy7; clear hb4)
        | (go_at_call 31; (with_reducible refine (HRC.out _ (HM1.out.up HC.out) (HM2.out.up HC.out)).mono ?_); rintro e w4 ⟨rfl, hb4⟩; have HC9 := Lib.hid (below_then HC.out hb4 HC.out.size); clear HC hf0 hf1 hf2 hf3 hf4 hf5 hf6 hf7; have HC := HC9; clear HC9; have hf0 := (below_atB (i := 0) HC.out hlt0).trans hy0; have hf1 := (below_atB (i := 1) HC.out hlt0).trans hy1; have hf2 := (below_atB (i := 0) HC.out hlt1).trans hy2; have hf3 := (below_atB (i := 1) HC.out hlt1).trans hy3; have hf4 := (below_atB (i := 0) HC.out hlt2).trans hy4; have hf5 := (below_atB (i := 1) HC.out hlt2).trans hy5; have hf6 := (below_atB (i := 0) HC.out hlt3).trans hy6; have hf7 := (below_atB (i := 1) HC.out hlt3).trans hy7; clear hb4)
        | (go_at_call 17; (first | (with_reducible refine (same_true kx ky Ax Ay cx cy X1 Y1 _ (by omega) (by omega) HX1.out HY1.out (by rw [HZX1.out, HZY1.out, HZ1.out, HZ2.out, HZ3.out, HZ4.out]) (tab_up HTW.out HC.out)).mono ?_) | (with_reducible refine (same_true ku kv Au Av cu cv X2 Y2 _ (by omega) (by omega) HX2.out HY2.out (by rw [HZX2.out, HZY2.out, HZ1.out, HZ2.out, HZ3.out, HZ4.out]) (tab_up HTW.out HC.out)).mono ?_) | (with_reducible refine (same_true kn km An Am cn cm L1 L3 _ (by omega) (by omega) HX3.out HY3.out (by rw [HZX3.out, HZY3.out, HZ1.out, HZ3.out]) (tab_up HTW.out HC.out)).mono ?_) | (with_reducible refine (same_true k1 k3 A1 A3 c1 c3 L1 L3 _ (by omega) (by omega) (HI1.out.up HC.out) (HM1.out.up HC.out) (by rw [HZ1.out, HZ3.out]) (tab_up HTW.out HC.out)).mono ?_)); rintro e w4 ⟨rfl, hb4⟩; have HC9 := Lib.hid (below_then HC.out hb4 HC.out.size); clear HC hf0 hf1 hf2 hf3 hf4 hf5 hf6 hf7; have HC := HC9; clear HC9; have hf0 := (below_atB (i := 0) HC.out hlt0).trans hy0; have hf1 := (below_atB (i := 1) HC.out hlt0).trans hy1; have hf2 := (below_atB (i := 0) HC.out hlt1).trans hy2; have hf3 := (below_atB (i := 1) HC.out hlt1).trans hy3; have hf4 := (below_atB (i := 0) HC.out hlt2).trans hy4; have hf5 := (below_atB (i := 1) HC.out hlt2).trans hy5; have hf6 := (below_atB (i := 0) HC.out hlt3).trans hy6; have hf7 := (below_atB (i := 1) HC.out hlt3).trans hy7; clear hb4))
    all_goals
      go_wp2
      go_ret
      exact ⟨rfl, HWW.out.trans (Below.less HC.out HWW.out.size)⟩
end Go.Proofs.YtbfbijokhlkekaaDoor
