/- JournalClone: Journals are cloned It holds for every input. -/
import Derived.Test.YtacmccijnkojeaaGreatJC12
import Derived.Test.YtacmccijnkojeaaGreatRows
import Derived.WalkKit
import Derived.ProofKit
import Derived.OpenShut
namespace Go.Proofs.YtacmccijnkojeaaGreat
open Go.ChangeShapes Go.WideShapes Go.ChangeAt Go.WideMaps Go.WideElems Go.RowKit


theorem journalClone_own : ownKnob Tryz.prog.godebug = none := by kernel_rfl
set_option maxRecDepth 100000 in
theorem journalClone_lifted (os : Os) (started : os.Started) (H : Type) (enc : TypeId × Value → H) :
    ReturnsInHanded {} Tryz.checked os 3 .any (Rows.journalCloneSpec.pre6 enc Tryz.prog Tryz.f3 Rows.journalCloneRow.domain false) (Rows.journalCloneSpec.post enc Tryz.prog Tryz.f3 false true false false) := by
  refine returnsInHanded_of_change (C := Tryz.checked) journalClone_own started (by kernel_rfl) Tryz.func3
    (ChangeSpec.witness6 (enc := enc) (C := Tryz.checked) false ⟨#[], #[.agg #[.string ⟨#[]⟩, .int .i64 0, .int .i64 0, .int .i64 0, .slice none 0 0, .int .i64 0, .int .i64 0, .int .i64 0, .int .i64 0, .int .i64 0, .int .i64 0, .int .i64 0, .int .i64 0, .int .i64 0, .int .i64 0, .int .i64 0, .int .i64 0, .int .i64 0, .int .i64 0, .int .i64 0, .slice none 0 0], .slice none 0 0, .agg #[.int .i64 0, .int .i64 0]], []⟩ 8 (by kernel_rfl) (by kernel_rfl) (by kernel_rfl) (by kernel_rfl)) ?_
  intro W base args ds gs before hval0 hW hcnd _
  have hval : ∀ (j : Nat) t v, Tryz.f3.params[j]? = some t → args[j]? = some v → Value.okWide Tryz.prog W .any base t v := hval0
  have hW' := hW
  obtain ⟨p, q, hA0, hV, rfl, hfz, hnd⟩ := hW
  have hA : DataW.TrodAll enc Tryz.prog W 0 (fun _ => true) true Tryz.f3.params.toList args.toList ds p := hA0
  rw [Tryz.params3] at hA hval
  have hAll := fun W' (hb : Below W.heap.size W W') (sp : Nat → Bool) => trodAll_stays (sp := sp) laid_out hb (by kernel_rfl) hA (fun x hx => hW'.lt x (List.mem_append_left _ hx))
  obtain ⟨v0, v1, v2, d0, d1, d2, p0, p1, p2, rfl, rfl, rfl, h0, h1, h2⟩ := trodAll_three hA
  obtain ⟨rfl, rfl⟩ := trodVars_none hV
  obtain ⟨g0, L0, G0, rfl, hk0, hw0, hm0⟩ := open_igrp (hval 0 29 v0 rfl rfl) h0
  obtain ⟨A1, len1, c1, rfl, zs1, hlen1, hmax1, hcap1, hz1, w1⟩ := open_ietysC (hval 1 30 v1 rfl rfl) h1
  obtain ⟨s2a, s2b, rfl, ws2a, ws2b⟩ := open_ipair Tryz.underlying32 rfl rfl (by kernel_rfl) (by kernel_rfl) Tryz.underlying3 (hval 2 32 v2 rfl rfl) h2
  clear hA0 hval0
  refine (law_jclo g0 L0 G0 A1 len1 c1 zs1 s2a s2b W ws2a hk0 hw0 hm0 hlen1 hcap1 hmax1 hz1 w1).mono fun e W' ⟨he, hw⟩ => ?_
  subst he
  exact ⟨_, rfl, post_plain (pv := []) hW' (fun _ _ _ => trodAll_mk1 (shut_bool Tryz.underlying4 _)) (fun sp hsp => hAll W' hw sp fun x hx => hsp x (List.mem_append_left _ hx)) (fun _ _ => rfl) rfl hw
    (ok_one (by kernel_rfl) rfl (okWide_bool_mk Tryz.underlying4 _))⟩

theorem journalClone_holds : Rows.JournalCloneSaid :=
  OpenClaim.holds_of_wide 3 Tryz.f3 rfl rfl rfl rfl rfl rfl rfl ⟨rfl, rfl, rfl, rfl, rfl⟩ rfl rfl rfl rfl rfl (by kernel_rfl) Tryz.func3 (by kernel_rfl)
    (of_decide_eq_true (by kernel_rfl)) (by unfold Func.isWrapper; first | (rw [if_pos (by decide +kernel)]; kernel_rfl) | (rw [if_neg (by decide +kernel)]; exact ⟨rfl, rfl⟩))
    (fun os started H enc _ => journalClone_lifted os started H enc)
#print axioms journalClone_holds
end Go.Proofs.YtacmccijnkojeaaGreat
