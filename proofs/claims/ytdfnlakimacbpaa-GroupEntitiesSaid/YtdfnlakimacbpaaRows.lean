/-
  No cell of these rows narrows 'for every input' (looked for: loops, veiled, ifaces, maps, wideKeys, modest, calm, conditions, laid).
  DERIVED. THE GIVEN ROWS OF THIS SEAT. 5 by the template 'for every input the law returns true; each argument reads behind the call as it read before'; 0 by the template 'total and deterministic' (their statements: YtdfnlakimacbpaaTotals.lean).
  GIVEN WITH THE SEED: the statements are not yours to turn. If you find one false, say at which input.
  Laid BY PROGRAM, IN A SANDBOX (cutbox-rows.mjs): the forced cells as the released guide's own fill.sh prints them over the translation 2d2bc6d8f5d60e82… (all of the seat's roots in one cut). By AI agents, Wed Nov 11 2026. No macro, syntax, notation, axiom, sorry.
-/
import Derived.Test.YtdfnlakimacbpaaChecked
import GoSem.Claim
import GoSem.ClaimJoined
import GoSem.ClaimMapViews
import Derived.JoinedTies
import Derived.KernelRfl
namespace Go.Proofs.Ytdfnlakimacbpaa
/- THE CELL 'sum', in the pinned program and in every row, IS THE sha256 OF THE DUMP (.gsa) THAT YtdfnlakimacbpaaProg.lean LOADS. Nothing in Lean hashes anything: it is a label: what it is worth is what the hold of that sum in a sandbox is worth. -/
noncomputable def Try.pinned : Pinned := { name := "ytdfnlakimacbpaa", sum := "2d2bc6d8f5d60e82f7171164ec519b5a7682ac735ffbaa312e036440c3ee5f80", checked := Try.checked }
namespace Rows
def none {H : Type} : Left H := { results := [], args := [] }

/-- 'tallystonelaw10.GroupValid': WHATEVER THE INPUT: true; the input reads as it did. -/
def groupValidSpec : ChangeSpec := { name := "groupValid", fn := fun _ => fun
  | [d] => { results := [.lit (.bool true)], args := [d] }
  | _ => none }
def groupValidRow : OpenClaim := { program := "ytdfnlakimacbpaa", sum := "2d2bc6d8f5d60e82f7171164ec519b5a7682ac735ffbaa312e036440c3ee5f80", func := "tallystone/tallystonelaw10.GroupValid", spec := "groupValid", unfollowed := true, recurses := true, plainKeys := false, apart := false }
def GroupValidSaid : Prop := groupValidRow.holds Try.pinned (OpenSpec.ofChange groupValidSpec)

/-- ITS FALSE NEIGHBOUR: 'it returns false'. Refute it at one input. -/
def groupValidWrong : ChangeSpec := { name := "groupValid", fn := fun _ => fun
  | [d] => { results := [.lit (.bool false)], args := [d] }
  | _ => none }
def GroupValidWrongFalsely : Prop := groupValidRow.holds Try.pinned (OpenSpec.ofChange groupValidWrong)

/-- 'tallystonelaw10.GroupFind': WHATEVER THE INPUT: true; the input reads as it did. -/
def groupFindSpec : ChangeSpec := { name := "groupFind", fn := fun _ => fun
  | [d1, d2] => { results := [.lit (.bool true)], args := [d1, d2] }
  | _ => none }
def groupFindRow : OpenClaim := { program := "ytdfnlakimacbpaa", sum := "2d2bc6d8f5d60e82f7171164ec519b5a7682ac735ffbaa312e036440c3ee5f80", func := "tallystone/tallystonelaw10.GroupFind", spec := "groupFind", unfollowed := true, recurses := true, plainKeys := false, apart := false }
def GroupFindSaid : Prop := groupFindRow.holds Try.pinned (OpenSpec.ofChange groupFindSpec)

/-- ITS FALSE NEIGHBOUR: 'it returns false'. Refute it at one input. -/
def groupFindWrong : ChangeSpec := { name := "groupFind", fn := fun _ => fun
  | [d1, d2] => { results := [.lit (.bool false)], args := [d1, d2] }
  | _ => none }
def GroupFindWrongFalsely : Prop := groupFindRow.holds Try.pinned (OpenSpec.ofChange groupFindWrong)

/-- 'tallystonelaw10.GroupAccounts': WHATEVER THE INPUT: true; the input reads as it did. -/
def groupAccountsSpec : ChangeSpec := { name := "groupAccounts", fn := fun _ => fun
  | [d1, d2] => { results := [.lit (.bool true)], args := [d1, d2] }
  | _ => none }
def groupAccountsRow : OpenClaim := { program := "ytdfnlakimacbpaa", sum := "2d2bc6d8f5d60e82f7171164ec519b5a7682ac735ffbaa312e036440c3ee5f80", func := "tallystone/tallystonelaw10.GroupAccounts", spec := "groupAccounts", unfollowed := true, recurses := true, plainKeys := false, apart := false }
def GroupAccountsSaid : Prop := groupAccountsRow.holds Try.pinned (OpenSpec.ofChange groupAccountsSpec)

/-- ITS FALSE NEIGHBOUR: 'it returns false'. Refute it at one input. -/
def groupAccountsWrong : ChangeSpec := { name := "groupAccounts", fn := fun _ => fun
  | [d1, d2] => { results := [.lit (.bool false)], args := [d1, d2] }
  | _ => none }
def GroupAccountsWrongFalsely : Prop := groupAccountsRow.holds Try.pinned (OpenSpec.ofChange groupAccountsWrong)

/-- 'tallystonelaw10.GroupEntities': WHATEVER THE INPUT: true; the input reads as it did. -/
def groupEntitiesSpec : ChangeSpec := { name := "groupEntities", fn := fun _ => fun
  | [d1, d2, d3] => { results := [.lit (.bool true)], args := [d1, d2, d3] }
  | _ => none }
def groupEntitiesRow : OpenClaim := { program := "ytdfnlakimacbpaa", sum := "2d2bc6d8f5d60e82f7171164ec519b5a7682ac735ffbaa312e036440c3ee5f80", func := "tallystone/tallystonelaw10.GroupEntities", spec := "groupEntities", unfollowed := true, recurses := true, plainKeys := false, apart := false }
def GroupEntitiesSaid : Prop := groupEntitiesRow.holds Try.pinned (OpenSpec.ofChange groupEntitiesSpec)

/-- ITS FALSE NEIGHBOUR: 'it returns false'. Refute it at one input. -/
def groupEntitiesWrong : ChangeSpec := { name := "groupEntities", fn := fun _ => fun
  | [d1, d2, d3] => { results := [.lit (.bool false)], args := [d1, d2, d3] }
  | _ => none }
def GroupEntitiesWrongFalsely : Prop := groupEntitiesRow.holds Try.pinned (OpenSpec.ofChange groupEntitiesWrong)

/-- 'tallystonelaw10.GroupRoles': WHATEVER THE INPUT: true; the input reads as it did. -/
def groupRolesSpec : ChangeSpec := { name := "groupRoles", fn := fun _ => fun
  | [d] => { results := [.lit (.bool true)], args := [d] }
  | _ => none }
def groupRolesRow : OpenClaim := { program := "ytdfnlakimacbpaa", sum := "2d2bc6d8f5d60e82f7171164ec519b5a7682ac735ffbaa312e036440c3ee5f80", func := "tallystone/tallystonelaw10.GroupRoles", spec := "groupRoles", unfollowed := true, recurses := true, plainKeys := false, apart := false }
def GroupRolesSaid : Prop := groupRolesRow.holds Try.pinned (OpenSpec.ofChange groupRolesSpec)

/-- ITS FALSE NEIGHBOUR: 'it returns false'. Refute it at one input. -/
def groupRolesWrong : ChangeSpec := { name := "groupRoles", fn := fun _ => fun
  | [d] => { results := [.lit (.bool false)], args := [d] }
  | _ => none }
def GroupRolesWrongFalsely : Prop := groupRolesRow.holds Try.pinned (OpenSpec.ofChange groupRolesWrong)

/- THE SECOND FORM. 'bulk': how many values and letters a reading holds, each counted each time it is reached (what is shared counts as often as it is met; a slice's spare places count too). A statement '..UptoSaid' is the law's where the arguments, and the package variables that the reading takes, are together of bulk at most 1048576: NARROWER than '..Said'. Prove '..Said' where nothing that the law and all that it calls make is longer than what came in: it says more and counts as full. Else prove '..UptoSaid'. A law counts once. -/
mutual
def uptoBulk {H : Type} : DataW H → Nat
  | .lit (.string bytes) => bytes.length + 1
  | .lit _ => 1
  | .nil => 1
  | .ptr d => uptoBulk d + 1
  | .slice elems spare => uptoBulkAll elems + uptoBulkAll spare + 1
  | .agg parts => uptoBulkAll parts + 1
  | .iface _ d => uptoBulk d + 1
  | .map entries => uptoBulkEntries entries + 1
  | .held _ => 1
def uptoBulkAll {H : Type} : List (DataW H) → Nat
  | [] => 0
  | d :: r => uptoBulk d + uptoBulkAll r
def uptoBulkEntries {H : Type} : List (Lit × DataW H) → Nat
  | [] => 0
  | x :: r => uptoBulkEntry x + uptoBulkEntries r
def uptoBulkEntry {H : Type} : Lit × DataW H → Nat
  | (.string bytes, d) => bytes.length + uptoBulk d + 1
  | (_, d) => uptoBulk d + 1
 end
def uptoSmall : (H : Type) → List (DataW H) → Bool := fun _ ds => decide (uptoBulkAll ds ≤ 1048576)
def OpenSpec.upto (s : _root_.Go.ChangeSpec) : _root_.Go.OpenSpec := { _root_.Go.OpenSpec.ofChange s with cond := some uptoSmall }

/-- 'tallystonelaw10.GroupValid', WHERE WHAT IT READS IS OF BULK AT MOST 1048576: true; the input reads as it did. -/
def groupValidUptoRow : OpenClaim := { program := "ytdfnlakimacbpaa", sum := "2d2bc6d8f5d60e82f7171164ec519b5a7682ac735ffbaa312e036440c3ee5f80", func := "tallystone/tallystonelaw10.GroupValid", spec := "groupValid", unfollowed := true, recurses := true, plainKeys := false, apart := false, narrowed := true }
def GroupValidUptoSaid : Prop := groupValidUptoRow.holds Try.pinned (OpenSpec.upto groupValidSpec)

/-- 'tallystonelaw10.GroupFind', WHERE WHAT IT READS IS OF BULK AT MOST 1048576: true; the input reads as it did. -/
def groupFindUptoRow : OpenClaim := { program := "ytdfnlakimacbpaa", sum := "2d2bc6d8f5d60e82f7171164ec519b5a7682ac735ffbaa312e036440c3ee5f80", func := "tallystone/tallystonelaw10.GroupFind", spec := "groupFind", unfollowed := true, recurses := true, plainKeys := false, apart := false, narrowed := true }
def GroupFindUptoSaid : Prop := groupFindUptoRow.holds Try.pinned (OpenSpec.upto groupFindSpec)

/-- 'tallystonelaw10.GroupAccounts', WHERE WHAT IT READS IS OF BULK AT MOST 1048576: true; the input reads as it did. -/
def groupAccountsUptoRow : OpenClaim := { program := "ytdfnlakimacbpaa", sum := "2d2bc6d8f5d60e82f7171164ec519b5a7682ac735ffbaa312e036440c3ee5f80", func := "tallystone/tallystonelaw10.GroupAccounts", spec := "groupAccounts", unfollowed := true, recurses := true, plainKeys := false, apart := false, narrowed := true }
def GroupAccountsUptoSaid : Prop := groupAccountsUptoRow.holds Try.pinned (OpenSpec.upto groupAccountsSpec)

/-- 'tallystonelaw10.GroupEntities', WHERE WHAT IT READS IS OF BULK AT MOST 1048576: true; the input reads as it did. -/
def groupEntitiesUptoRow : OpenClaim := { program := "ytdfnlakimacbpaa", sum := "2d2bc6d8f5d60e82f7171164ec519b5a7682ac735ffbaa312e036440c3ee5f80", func := "tallystone/tallystonelaw10.GroupEntities", spec := "groupEntities", unfollowed := true, recurses := true, plainKeys := false, apart := false, narrowed := true }
def GroupEntitiesUptoSaid : Prop := groupEntitiesUptoRow.holds Try.pinned (OpenSpec.upto groupEntitiesSpec)

/-- 'tallystonelaw10.GroupRoles', WHERE WHAT IT READS IS OF BULK AT MOST 1048576: true; the input reads as it did. -/
def groupRolesUptoRow : OpenClaim := { program := "ytdfnlakimacbpaa", sum := "2d2bc6d8f5d60e82f7171164ec519b5a7682ac735ffbaa312e036440c3ee5f80", func := "tallystone/tallystonelaw10.GroupRoles", spec := "groupRoles", unfollowed := true, recurses := true, plainKeys := false, apart := false, narrowed := true }
def GroupRolesUptoSaid : Prop := groupRolesUptoRow.holds Try.pinned (OpenSpec.upto groupRolesSpec)

end Rows
end Go.Proofs.Ytdfnlakimacbpaa
