/- DecimalSums: for every slice, pair of scales and mode the statement about sums of rescaled numbers returns true, and all read as they did. The tables of the standard library that are listed are tied to the program's text. -/
import Derived.Test.YtgihmikeapbpkabDoorSM2
import Derived.ChangeSlices
import Derived.OpenShut
import Derived.Test.YtgihmikeapbpkabDoorCards
import Derived.Test.YtgihmikeapbpkabDoorTie
namespace Go.Proofs.YtgihmikeapbpkabDoor
open Go.ChangeShapes Go.WideShapes Go.ChangeAt Go.WideMaps Go.WideElems Go.RowKit
open Go.ChangeMaps (open_string shut_string)

theorem cell_lt {w : World} {a : Addr} {v : Value} (h : w.cell? a = some v) : a.block < w.heap.size := by
  rcases Nat.lt_or_ge a.block w.heap.size with hlt | hge
  · exact hlt
  · unfold World.cell? at h
    rw [Array.getElem?_eq_none hge] at h
    simp at h
set_option maxRecDepth 100000 in
theorem decimalSums_lifted (os : Os) (started : os.Started) (H : Type) (enc : TypeId × Value → H) :
    ReturnsInHanded {} Tryd.checked os 6 .any (fun w args => (Rows.decimalSumsSpec.pre enc Tryd.prog Tryd.f6 [] false w args ∧ laidMetH Tryd.prog laidL w) ∧ sizedMet enc Tryd.prog Tryd.f6 (OpenSpec.ofChange Rows.decimalSumsSpec) false w args)
      (Rows.decimalSumsSpec.post enc Tryd.prog Tryd.f6 false true false false) := by
  refine lifted_shaped (C := Tryd.checked) (X := fun w _ => laidMetH Tryd.prog laidL w) (fun _ _ _ hh h => h.of_heap hh) own started (by kernel_rfl) Tryd.func6
    (ChangeSpec.witness_shaped (enc := enc) (C := Tryd.checked) (os := os) (X := fun w _ => laidMetH Tryd.prog laidL w) false (World.laidAll Tryd.prog os laidL) #[.slice none 0 0, .agg #[.int .u8 0, .int .u8 0], .bool false] 8 (World.laidAll_os _ _ _) (World.shaped_of_ZipB (by kernel_rfl) (by kernel_rfl)) (by kernel_rfl) (by kernel_rfl) (by kernel_rfl) (door_met os _)) ?_
  intro W base args ds gs before hsh hval0 hW hL
  have hval : ∀ (j : Nat) t v, Tryd.f6.params[j]? = some t → args[j]? = some v → Value.okWide Tryd.prog W .any base t v := hval0
  have hW' := hW
  obtain ⟨p, q, hA0, hV, rfl, hfz, hnd⟩ := hW
  have hA : DataW.TrodAll enc Tryd.prog W 0 (fun _ => true) true Tryd.f6.params.toList args.toList ds p := hA0
  rw [Tryd.params6] at hA hval
  obtain ⟨v0, v1, v2, d0, d1, d2, p0, p1, p2, rfl, rfl, rfl, h0, h1, h2⟩ := trodAll_three hA
  obtain ⟨rfl, rfl⟩ := trodVars_none hV
  obtain ⟨s1x, s1y, rfl, rfl, rfl, ws1, ws1'⟩ := open_arr2 Tryd.underlying37 Tryd.underlying5 (by kernel_rfl) (by kernel_rfl) (hval 1 37 v1 rfl rfl) h1
  obtain ⟨ev, rfl, rfl, rfl⟩ := open_bool Tryd.underlying4 (hval 2 4 v2 rfl rfl) h2
  have bx := bounds_u8 ws1
  have bz := bounds_u8 ws1'
  have cells32 : Tryd.prog.cellsOf 21 = 1 := by kernel_rfl
  obtain ⟨a0, len, cap, rfl⟩ := okWide_slice Tryd.underlying36 (hval 0 36 v0 rfl rfl)
  obtain ⟨fuel, hf⟩ := h0
  have ht := tab_of_laid hL
  clear hA0 hval0
  simp only [List.append_nil] at hW'
  rcases open_ints Tryd.underlying36 Tryd.underlying21 cells32 hf with ⟨hcs, hx⟩ | ⟨a, len', cap', zs, hcs, _, hl, hm, hz, hx, hcell, hwz⟩
  · simp [Value.cells] at hcs
    obtain ⟨rfl, rfl, rfl⟩ := hcs
    simp only [Prod.mk.injEq] at hx
    obtain ⟨rfl, rfl⟩ := hx
    refine (law_dsums none 0 0 0 0 [] s1x s1y ev W ht (by omega) (fun h => absurd h (by omega)) (fun i h => absurd h (by omega)) (fun i h => absurd h (by omega)) bx bz).mono fun e W' ⟨he, hw⟩ => ?_
    subst he
    exact ⟨_, rfl, post_below (pa := []) (pv := []) hW' (fun _ _ _ => trodAll_mk1 (shut_bool Tryd.underlying4 _)) (fun sp _ => trodAll_mk3 (shut_slice_nil Tryd.underlying36) (shut_arr2 Tryd.underlying37 Tryd.underlying5 (by kernel_rfl) (by kernel_rfl) ws1 ws1') (shut_bool Tryd.underlying4 _)) (fun _ _ => rfl) rfl hw
      (ok_one (by kernel_rfl) rfl (okWide_bool_mk Tryd.underlying4 _))⟩
  · simp [Value.cells] at hcs
    obtain ⟨rfl, rfl, rfl⟩ := hcs
    simp only [Prod.mk.injEq] at hx
    obtain ⟨rfl, rfl⟩ := hx
    simp only [if_true] at hz
    have inblock : ∀ i, i < zs.length → a.block < W.heap.size := fun i hi => by
      have := hcell i hi
      have h9 := cell_lt this
      rwa [block_add] at h9
    have hplain : 0 < len → ∃ b off, a = ⟨b, off, none⟩ := fun h => by
      obtain ⟨b, off, spot⟩ := a
      have hspot : spot = none := by simpa [Addr.add] using World.cell?_spot (hcell 0 (by omega))
      subst hspot
      exact ⟨b, off, rfl⟩
    have fin : Calls Tryd.prog 6 #[.slice (some a) len cap, .agg #[.int .u8 s1x, .int .u8 s1y], .bool ev] W fun e w' => e = .returned (.bool true) ∧ Below W.heap.size W w' := by
      by_cases hl0 : len = 0
      · subst hl0
        exact law_dsums (some a) 0 cap 0 0 [] s1x s1y ev W ht (by omega) (fun h => absurd h (by omega)) (fun i h => absurd h (by omega)) (fun i h => absurd h (by omega)) bx bz
      · obtain ⟨b, off, rfl⟩ := hplain (by omega)
        exact law_dsums _ len cap b off zs s1x s1y ev W ht (by unfold maxLen at hm; omega) (fun _ => ⟨rfl, inblock 0 (by omega)⟩) (fun i hi => by rw [← add_plain]; exact hcell i (by omega)) (fun i hi => bounds_i32 (hwz _ (by
          rw [List.getD, List.getElem?_eq_getElem (by omega)]; exact List.getElem_mem _))) bx bz
    refine fin.mono fun e W' ⟨he, hw⟩ => ?_
    subst he
    have hcell' : ∀ i, i < zs.length → W'.cell? (a.add i) = some (.int .i32 (zs.getD i 0)) := fun i hi => (hw.cell (p := a.add i) (by rw [block_add]; exact inblock i hi)).trans (hcell i hi)
    have again : ∀ sp : Nat → Bool, (∀ p ∈ MemPlace.row a zs.length, sp p.block = true) → DataW.Trod enc Tryd.prog W' 0 sp true 36 (.slice (some a) len cap) (.slice (lits .i32 (zs.take len)) (lits .i32 (zs.drop len))) (MemPlace.row a zs.length) := by
      intro sp hsp
      by_cases hz0 : zs.length = 0
      · have hc0 : cap = 0 := by omega
        have hl0 : len = 0 := by omega
        subst hc0; subst hl0
        have t0 := shut_ints (enc := enc) (w := W') (base := 0) (spare := sp) (held := true) (a := a) (len := 0) (cap := 0) (zs := zs) 0 Tryd.underlying36 Tryd.underlying21 cells32 (Nat.zero_le _) (Nat.le_refl _) hm (by simp [hz0]) hcell' hwz
        exact ⟨2, by simpa [Value.cells] using t0⟩
      · have hspb : sp a.block = true := by
          have := hsp (.cell a.block a.off) (MemPlace.mem_row.2 ⟨0, by omega, by simp⟩)
          exact this
        have t0 := shut_ints (enc := enc) (w := W') (base := 0) (spare := sp) (held := true) (a := a) (len := len) (cap := cap) (zs := zs) 0 Tryd.underlying36 Tryd.underlying21 cells32 (Nat.zero_le _) hl hm (by simp [hspb, hz]) hcell' hwz
        exact ⟨2, by simpa [Value.cells] using t0⟩
    exact ⟨_, rfl, post_below (pa := MemPlace.row a zs.length ++ []) (pv := []) hW' (fun _ _ _ => trodAll_mk1 (shut_bool Tryd.underlying4 _))
      (fun sp hsp => by
        have h := trodAll_cons_mk (again sp hsp) (trodAll_mk2 (shut_arr2 Tryd.underlying37 Tryd.underlying5 (by kernel_rfl) (by kernel_rfl) ws1 ws1') (shut_bool Tryd.underlying4 ev))
        exact h) (fun _ _ => rfl) (by simp) hw
      (ok_one (by kernel_rfl) rfl (okWide_bool_mk Tryd.underlying4 _))⟩

theorem decimalSums_holds : Rows.DecimalSumsSaid :=
  OpenClaim.holds_of_wide 6 Tryd.f6 rfl rfl rfl rfl rfl rfl rfl ⟨rfl, rfl, rfl, rfl, rfl⟩ rfl rfl rfl rfl rfl (by kernel_rfl) Tryd.func6 (by kernel_rfl)
    (of_decide_eq_true (by kernel_rfl)) (by unfold Func.isWrapper; first | (rw [if_pos (by decide +kernel)]; kernel_rfl) | (rw [if_neg (by decide +kernel)]; exact ⟨rfl, rfl⟩))
    (fun os started H enc _ => decimalSums_lifted os started H enc)

theorem decimalSums_card : Rows.DecimalSumsCardSaid :=
  Claim7.holds_tied_plain_at .later [] [.data, .data, .data] true (true, "96a942e913c4a6ae7c8e7cf743c437b15589ca88b15c84a8ee9a450f50a5ceed") false
    decimalSums_holds (fun _ h => by cases h) (by kernel_rfl) (fun _ h => by cases h) decimalSums_row_tie rfl ⟨rfl, rfl⟩ (by kernel_rfl) rfl
    (fun f fn hf hfn => by
      obtain rfl : f = 6 := Option.some.inj ((show Tryd.prog.funcNamed "tallystone/tallystonelaw03.DecimalSums" = some 6 by kernel_rfl).symm.trans hf) |>.symm
      obtain rfl : fn = Tryd.f6 := (Option.some.inj (Tryd.func6.symm.trans hfn)).symm
      exact ⟨by kernel_rfl, fun j t ht => by
        rw [Tryd.params6] at ht
        have hm : t ∈ [36, 37, 4] := by simpa using Array.mem_of_getElem? ht
        have hall : ([36, 37, 4].all fun u => !Tryd.prog.wantsStandIn u) = true := by kernel_rfl
        exact (show Tryd.prog.wantsStandIn t = false by simpa using List.all_eq_true.1 hall t hm)⟩)
    (by kernel_rfl)
#print axioms decimalSums_card
end Go.Proofs.YtgihmikeapbpkabDoor
