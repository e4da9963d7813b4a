/-
  No cell of these rows narrows 'for every input' (looked for: loops, veiled, ifaces, maps, wideKeys, modest, calm, conditions, laid).
  DERIVED. THE GIVEN ROWS OF THIS SEAT. 10 by the template 'for every input the law returns true; each argument reads behind the call as it read before'; 0 by the template 'total and deterministic' (their statements: YthokdplikidhiaaGreatTotals.lean).
  GIVEN WITH THE SEED: the statements are not yours to turn. If you find one false, say at which input.
  Laid BY PROGRAM, IN A SANDBOX (cutbox-rows.mjs): the forced cells as the released guide's own fill.sh prints them over the translation 2dc3174d338d5394… (all of the seat's roots in one cut). By AI agents, Wed Nov 11 2026. No macro, syntax, notation, axiom, sorry.
-/
import Derived.Test.YthokdplikidhiaaGreatChecked
import GoSem.Claim
import GoSem.ClaimJoined
import GoSem.ClaimMapViews
import Derived.JoinedTies
import Derived.KernelRfl
namespace Go.Proofs.YthokdplikidhiaaGreat
/- THE CELL 'sum', in the pinned program and in every row, IS THE sha256 OF THE DUMP (.gsa) THAT YthokdplikidhiaaGreatProg.lean LOADS. Nothing in Lean hashes anything: it is a label: what it is worth is what the hold of that sum in a sandbox is worth. -/
noncomputable def Tryz.pinned : Pinned := { name := "ythokdplikidhiaagreat", sum := "2dc3174d338d5394548f24ec5333ccdae63dc2e57c185135529b12cfed429346", checked := Tryz.checked }
namespace Rows
def none {H : Type} : Left H := { results := [], args := [] }

/-- 'tallystonelaw12.JournalPosts': WHATEVER THE INPUT: true; the input reads as it did. -/
def journalPostsSpec : ChangeSpec := { name := "journalPosts", fn := fun _ => fun
  | [d1, d2, d3] => { results := [.lit (.bool true)], args := [d1, d2, d3] }
  | _ => none }
def journalPostsRow : OpenClaim := { program := "ythokdplikidhiaagreat", sum := "2dc3174d338d5394548f24ec5333ccdae63dc2e57c185135529b12cfed429346", func := "tallystone/tallystonelaw12.JournalPosts", spec := "journalPosts", unfollowed := true, recurses := true, plainKeys := false, apart := false }
def JournalPostsSaid : Prop := journalPostsRow.holds Tryz.pinned (OpenSpec.ofChange journalPostsSpec)

/-- ITS FALSE NEIGHBOUR: 'it returns false'. Refute it at one input. -/
def journalPostsWrong : ChangeSpec := { name := "journalPosts", fn := fun _ => fun
  | [d1, d2, d3] => { results := [.lit (.bool false)], args := [d1, d2, d3] }
  | _ => none }
def JournalPostsWrongFalsely : Prop := journalPostsRow.holds Tryz.pinned (OpenSpec.ofChange journalPostsWrong)

/-- 'tallystonelaw12.JournalEntities': WHATEVER THE INPUT: true; the input reads as it did. -/
def journalEntitiesSpec : ChangeSpec := { name := "journalEntities", fn := fun _ => fun
  | [d1, d2, d3] => { results := [.lit (.bool true)], args := [d1, d2, d3] }
  | _ => none }
def journalEntitiesRow : OpenClaim := { program := "ythokdplikidhiaagreat", sum := "2dc3174d338d5394548f24ec5333ccdae63dc2e57c185135529b12cfed429346", func := "tallystone/tallystonelaw12.JournalEntities", spec := "journalEntities", unfollowed := true, recurses := true, plainKeys := false, apart := false }
def JournalEntitiesSaid : Prop := journalEntitiesRow.holds Tryz.pinned (OpenSpec.ofChange journalEntitiesSpec)

/-- ITS FALSE NEIGHBOUR: 'it returns false'. Refute it at one input. -/
def journalEntitiesWrong : ChangeSpec := { name := "journalEntities", fn := fun _ => fun
  | [d1, d2, d3] => { results := [.lit (.bool false)], args := [d1, d2, d3] }
  | _ => none }
def JournalEntitiesWrongFalsely : Prop := journalEntitiesRow.holds Tryz.pinned (OpenSpec.ofChange journalEntitiesWrong)

/-- 'tallystonelaw12.JournalReverse': WHATEVER THE INPUT: true; the input reads as it did. -/
def journalReverseSpec : ChangeSpec := { name := "journalReverse", fn := fun _ => fun
  | [d1, d2, d3] => { results := [.lit (.bool true)], args := [d1, d2, d3] }
  | _ => none }
def journalReverseRow : OpenClaim := { program := "ythokdplikidhiaagreat", sum := "2dc3174d338d5394548f24ec5333ccdae63dc2e57c185135529b12cfed429346", func := "tallystone/tallystonelaw12.JournalReverse", spec := "journalReverse", unfollowed := true, recurses := true, plainKeys := false, apart := false }
def JournalReverseSaid : Prop := journalReverseRow.holds Tryz.pinned (OpenSpec.ofChange journalReverseSpec)

/-- ITS FALSE NEIGHBOUR: 'it returns false'. Refute it at one input. -/
def journalReverseWrong : ChangeSpec := { name := "journalReverse", fn := fun _ => fun
  | [d1, d2, d3] => { results := [.lit (.bool false)], args := [d1, d2, d3] }
  | _ => none }
def JournalReverseWrongFalsely : Prop := journalReverseRow.holds Tryz.pinned (OpenSpec.ofChange journalReverseWrong)

/-- 'tallystonelaw12.JournalClone': WHATEVER THE INPUT: true; the input reads as it did. -/
def journalCloneSpec : ChangeSpec := { name := "journalClone", fn := fun _ => fun
  | [d1, d2, d3] => { results := [.lit (.bool true)], args := [d1, d2, d3] }
  | _ => none }
def journalCloneRow : OpenClaim := { program := "ythokdplikidhiaagreat", sum := "2dc3174d338d5394548f24ec5333ccdae63dc2e57c185135529b12cfed429346", func := "tallystone/tallystonelaw12.JournalClone", spec := "journalClone", inPlace := ["maps.clone"], unfollowed := true, recurses := true, plainKeys := false, apart := false }
def JournalCloneSaid : Prop := journalCloneRow.holds Tryz.pinned (OpenSpec.ofChange journalCloneSpec)

/-- ITS FALSE NEIGHBOUR: 'it returns false'. Refute it at one input. -/
def journalCloneWrong : ChangeSpec := { name := "journalClone", fn := fun _ => fun
  | [d1, d2, d3] => { results := [.lit (.bool false)], args := [d1, d2, d3] }
  | _ => none }
def JournalCloneWrongFalsely : Prop := journalCloneRow.holds Tryz.pinned (OpenSpec.ofChange journalCloneWrong)

/-- 'tallystonelaw14.LedgerBalance': WHATEVER THE INPUT: true; the input reads as it did. -/
def ledgerBalanceSpec : ChangeSpec := { name := "ledgerBalance", fn := fun _ => fun
  | [d1, d2, d3] => { results := [.lit (.bool true)], args := [d1, d2, d3] }
  | _ => none }
def ledgerBalanceRow : OpenClaim := { program := "ythokdplikidhiaagreat", sum := "2dc3174d338d5394548f24ec5333ccdae63dc2e57c185135529b12cfed429346", func := "tallystone/tallystonelaw14.LedgerBalance", spec := "ledgerBalance", unfollowed := true, recurses := true, plainKeys := false, apart := false }
def LedgerBalanceSaid : Prop := ledgerBalanceRow.holds Tryz.pinned (OpenSpec.ofChange ledgerBalanceSpec)

/-- ITS FALSE NEIGHBOUR: 'it returns false'. Refute it at one input. -/
def ledgerBalanceWrong : ChangeSpec := { name := "ledgerBalance", fn := fun _ => fun
  | [d1, d2, d3] => { results := [.lit (.bool false)], args := [d1, d2, d3] }
  | _ => none }
def LedgerBalanceWrongFalsely : Prop := ledgerBalanceRow.holds Tryz.pinned (OpenSpec.ofChange ledgerBalanceWrong)

/-- 'tallystonelaw14.LedgerMovement': WHATEVER THE INPUT: true; the input reads as it did. -/
def ledgerMovementSpec : ChangeSpec := { name := "ledgerMovement", fn := fun _ => fun
  | [d1, d2, d3] => { results := [.lit (.bool true)], args := [d1, d2, d3] }
  | _ => none }
def ledgerMovementRow : OpenClaim := { program := "ythokdplikidhiaagreat", sum := "2dc3174d338d5394548f24ec5333ccdae63dc2e57c185135529b12cfed429346", func := "tallystone/tallystonelaw14.LedgerMovement", spec := "ledgerMovement", unfollowed := true, recurses := true, plainKeys := false, apart := false }
def LedgerMovementSaid : Prop := ledgerMovementRow.holds Tryz.pinned (OpenSpec.ofChange ledgerMovementSpec)

/-- ITS FALSE NEIGHBOUR: 'it returns false'. Refute it at one input. -/
def ledgerMovementWrong : ChangeSpec := { name := "ledgerMovement", fn := fun _ => fun
  | [d1, d2, d3] => { results := [.lit (.bool false)], args := [d1, d2, d3] }
  | _ => none }
def LedgerMovementWrongFalsely : Prop := ledgerMovementRow.holds Tryz.pinned (OpenSpec.ofChange ledgerMovementWrong)

/-- 'tallystonelaw14.LedgerTrial': WHATEVER THE INPUT: true; the input reads as it did. -/
def ledgerTrialSpec : ChangeSpec := { name := "ledgerTrial", fn := fun _ => fun
  | [d1, d2, d3] => { results := [.lit (.bool true)], args := [d1, d2, d3] }
  | _ => none }
def ledgerTrialRow : OpenClaim := { program := "ythokdplikidhiaagreat", sum := "2dc3174d338d5394548f24ec5333ccdae63dc2e57c185135529b12cfed429346", func := "tallystone/tallystonelaw14.LedgerTrial", spec := "ledgerTrial", unfollowed := true, recurses := true, plainKeys := false, apart := false }
def LedgerTrialSaid : Prop := ledgerTrialRow.holds Tryz.pinned (OpenSpec.ofChange ledgerTrialSpec)

/-- ITS FALSE NEIGHBOUR: 'it returns false'. Refute it at one input. -/
def ledgerTrialWrong : ChangeSpec := { name := "ledgerTrial", fn := fun _ => fun
  | [d1, d2, d3] => { results := [.lit (.bool false)], args := [d1, d2, d3] }
  | _ => none }
def LedgerTrialWrongFalsely : Prop := ledgerTrialRow.holds Tryz.pinned (OpenSpec.ofChange ledgerTrialWrong)

/-- 'tallystonelaw14.LedgerPeriods': WHATEVER THE INPUT: true; the input reads as it did. -/
def ledgerPeriodsSpec : ChangeSpec := { name := "ledgerPeriods", fn := fun _ => fun
  | [d1, d2, d3] => { results := [.lit (.bool true)], args := [d1, d2, d3] }
  | _ => none }
def ledgerPeriodsRow : OpenClaim := { program := "ythokdplikidhiaagreat", sum := "2dc3174d338d5394548f24ec5333ccdae63dc2e57c185135529b12cfed429346", func := "tallystone/tallystonelaw14.LedgerPeriods", spec := "ledgerPeriods", unfollowed := true, recurses := true, plainKeys := false, apart := false }
def LedgerPeriodsSaid : Prop := ledgerPeriodsRow.holds Tryz.pinned (OpenSpec.ofChange ledgerPeriodsSpec)

/-- ITS FALSE NEIGHBOUR: 'it returns false'. Refute it at one input. -/
def ledgerPeriodsWrong : ChangeSpec := { name := "ledgerPeriods", fn := fun _ => fun
  | [d1, d2, d3] => { results := [.lit (.bool false)], args := [d1, d2, d3] }
  | _ => none }
def LedgerPeriodsWrongFalsely : Prop := ledgerPeriodsRow.holds Tryz.pinned (OpenSpec.ofChange ledgerPeriodsWrong)

/-- 'tallystonelaw14.LedgerOrder': WHATEVER THE INPUT: true; the input reads as it did. -/
def ledgerOrderSpec : ChangeSpec := { name := "ledgerOrder", fn := fun _ => fun
  | [d1, d2, d3] => { results := [.lit (.bool true)], args := [d1, d2, d3] }
  | _ => none }
def ledgerOrderRow : OpenClaim := { program := "ythokdplikidhiaagreat", sum := "2dc3174d338d5394548f24ec5333ccdae63dc2e57c185135529b12cfed429346", func := "tallystone/tallystonelaw14.LedgerOrder", spec := "ledgerOrder", unfollowed := true, recurses := true, plainKeys := false, apart := false }
def LedgerOrderSaid : Prop := ledgerOrderRow.holds Tryz.pinned (OpenSpec.ofChange ledgerOrderSpec)

/-- ITS FALSE NEIGHBOUR: 'it returns false'. Refute it at one input. -/
def ledgerOrderWrong : ChangeSpec := { name := "ledgerOrder", fn := fun _ => fun
  | [d1, d2, d3] => { results := [.lit (.bool false)], args := [d1, d2, d3] }
  | _ => none }
def LedgerOrderWrongFalsely : Prop := ledgerOrderRow.holds Tryz.pinned (OpenSpec.ofChange ledgerOrderWrong)

/-- 'tallystonelaw14.LedgerReversed': WHATEVER THE INPUT: true; the input reads as it did. -/
def ledgerReversedSpec : ChangeSpec := { name := "ledgerReversed", fn := fun _ => fun
  | [d1, d2, d3] => { results := [.lit (.bool true)], args := [d1, d2, d3] }
  | _ => none }
def ledgerReversedRow : OpenClaim := { program := "ythokdplikidhiaagreat", sum := "2dc3174d338d5394548f24ec5333ccdae63dc2e57c185135529b12cfed429346", func := "tallystone/tallystonelaw14.LedgerReversed", spec := "ledgerReversed", unfollowed := true, recurses := true, plainKeys := false, apart := false }
def LedgerReversedSaid : Prop := ledgerReversedRow.holds Tryz.pinned (OpenSpec.ofChange ledgerReversedSpec)

/-- ITS FALSE NEIGHBOUR: 'it returns false'. Refute it at one input. -/
def ledgerReversedWrong : ChangeSpec := { name := "ledgerReversed", fn := fun _ => fun
  | [d1, d2, d3] => { results := [.lit (.bool false)], args := [d1, d2, d3] }
  | _ => none }
def LedgerReversedWrongFalsely : Prop := ledgerReversedRow.holds Tryz.pinned (OpenSpec.ofChange ledgerReversedWrong)

/- THE SECOND FORM. 'bulk': how many values and letters a reading holds, each counted each time it is reached (what is shared counts as often as it is met; a slice's spare places count too). A statement '..UptoSaid' is the law's where the arguments, and the package variables that the reading takes, are together of bulk at most 1048576: NARROWER than '..Said'. Prove '..Said' where nothing that the law and all that it calls make is longer than what came in: it says more and counts as full. Else prove '..UptoSaid'. A law counts once. -/
mutual
def uptoBulk {H : Type} : DataW H → Nat
  | .lit (.string bytes) => bytes.length + 1
  | .lit _ => 1
  | .nil => 1
  | .ptr d => uptoBulk d + 1
  | .slice elems spare => uptoBulkAll elems + uptoBulkAll spare + 1
  | .agg parts => uptoBulkAll parts + 1
  | .iface _ d => uptoBulk d + 1
  | .map entries => uptoBulkEntries entries + 1
  | .held _ => 1
def uptoBulkAll {H : Type} : List (DataW H) → Nat
  | [] => 0
  | d :: r => uptoBulk d + uptoBulkAll r
def uptoBulkEntries {H : Type} : List (Lit × DataW H) → Nat
  | [] => 0
  | x :: r => uptoBulkEntry x + uptoBulkEntries r
def uptoBulkEntry {H : Type} : Lit × DataW H → Nat
  | (.string bytes, d) => bytes.length + uptoBulk d + 1
  | (_, d) => uptoBulk d + 1
 end
def uptoSmall : (H : Type) → List (DataW H) → Bool := fun _ ds => decide (uptoBulkAll ds ≤ 1048576)
def OpenSpec.upto (s : _root_.Go.ChangeSpec) : _root_.Go.OpenSpec := { _root_.Go.OpenSpec.ofChange s with cond := some uptoSmall }

/-- 'tallystonelaw12.JournalPosts', WHERE WHAT IT READS IS OF BULK AT MOST 1048576: true; the input reads as it did. -/
def journalPostsUptoRow : OpenClaim := { program := "ythokdplikidhiaagreat", sum := "2dc3174d338d5394548f24ec5333ccdae63dc2e57c185135529b12cfed429346", func := "tallystone/tallystonelaw12.JournalPosts", spec := "journalPosts", unfollowed := true, recurses := true, plainKeys := false, apart := false, narrowed := true }
def JournalPostsUptoSaid : Prop := journalPostsUptoRow.holds Tryz.pinned (OpenSpec.upto journalPostsSpec)

/-- 'tallystonelaw12.JournalEntities', WHERE WHAT IT READS IS OF BULK AT MOST 1048576: true; the input reads as it did. -/
def journalEntitiesUptoRow : OpenClaim := { program := "ythokdplikidhiaagreat", sum := "2dc3174d338d5394548f24ec5333ccdae63dc2e57c185135529b12cfed429346", func := "tallystone/tallystonelaw12.JournalEntities", spec := "journalEntities", unfollowed := true, recurses := true, plainKeys := false, apart := false, narrowed := true }
def JournalEntitiesUptoSaid : Prop := journalEntitiesUptoRow.holds Tryz.pinned (OpenSpec.upto journalEntitiesSpec)

/-- 'tallystonelaw12.JournalReverse', WHERE WHAT IT READS IS OF BULK AT MOST 1048576: true; the input reads as it did. -/
def journalReverseUptoRow : OpenClaim := { program := "ythokdplikidhiaagreat", sum := "2dc3174d338d5394548f24ec5333ccdae63dc2e57c185135529b12cfed429346", func := "tallystone/tallystonelaw12.JournalReverse", spec := "journalReverse", unfollowed := true, recurses := true, plainKeys := false, apart := false, narrowed := true }
def JournalReverseUptoSaid : Prop := journalReverseUptoRow.holds Tryz.pinned (OpenSpec.upto journalReverseSpec)

/-- 'tallystonelaw12.JournalClone', WHERE WHAT IT READS IS OF BULK AT MOST 1048576: true; the input reads as it did. -/
def journalCloneUptoRow : OpenClaim := { program := "ythokdplikidhiaagreat", sum := "2dc3174d338d5394548f24ec5333ccdae63dc2e57c185135529b12cfed429346", func := "tallystone/tallystonelaw12.JournalClone", spec := "journalClone", inPlace := ["maps.clone"], unfollowed := true, recurses := true, plainKeys := false, apart := false, narrowed := true }
def JournalCloneUptoSaid : Prop := journalCloneUptoRow.holds Tryz.pinned (OpenSpec.upto journalCloneSpec)

/-- 'tallystonelaw14.LedgerBalance', WHERE WHAT IT READS IS OF BULK AT MOST 1048576: true; the input reads as it did. -/
def ledgerBalanceUptoRow : OpenClaim := { program := "ythokdplikidhiaagreat", sum := "2dc3174d338d5394548f24ec5333ccdae63dc2e57c185135529b12cfed429346", func := "tallystone/tallystonelaw14.LedgerBalance", spec := "ledgerBalance", unfollowed := true, recurses := true, plainKeys := false, apart := false, narrowed := true }
def LedgerBalanceUptoSaid : Prop := ledgerBalanceUptoRow.holds Tryz.pinned (OpenSpec.upto ledgerBalanceSpec)

/-- 'tallystonelaw14.LedgerMovement', WHERE WHAT IT READS IS OF BULK AT MOST 1048576: true; the input reads as it did. -/
def ledgerMovementUptoRow : OpenClaim := { program := "ythokdplikidhiaagreat", sum := "2dc3174d338d5394548f24ec5333ccdae63dc2e57c185135529b12cfed429346", func := "tallystone/tallystonelaw14.LedgerMovement", spec := "ledgerMovement", unfollowed := true, recurses := true, plainKeys := false, apart := false, narrowed := true }
def LedgerMovementUptoSaid : Prop := ledgerMovementUptoRow.holds Tryz.pinned (OpenSpec.upto ledgerMovementSpec)

/-- 'tallystonelaw14.LedgerTrial', WHERE WHAT IT READS IS OF BULK AT MOST 1048576: true; the input reads as it did. -/
def ledgerTrialUptoRow : OpenClaim := { program := "ythokdplikidhiaagreat", sum := "2dc3174d338d5394548f24ec5333ccdae63dc2e57c185135529b12cfed429346", func := "tallystone/tallystonelaw14.LedgerTrial", spec := "ledgerTrial", unfollowed := true, recurses := true, plainKeys := false, apart := false, narrowed := true }
def LedgerTrialUptoSaid : Prop := ledgerTrialUptoRow.holds Tryz.pinned (OpenSpec.upto ledgerTrialSpec)

/-- 'tallystonelaw14.LedgerPeriods', WHERE WHAT IT READS IS OF BULK AT MOST 1048576: true; the input reads as it did. -/
def ledgerPeriodsUptoRow : OpenClaim := { program := "ythokdplikidhiaagreat", sum := "2dc3174d338d5394548f24ec5333ccdae63dc2e57c185135529b12cfed429346", func := "tallystone/tallystonelaw14.LedgerPeriods", spec := "ledgerPeriods", unfollowed := true, recurses := true, plainKeys := false, apart := false, narrowed := true }
def LedgerPeriodsUptoSaid : Prop := ledgerPeriodsUptoRow.holds Tryz.pinned (OpenSpec.upto ledgerPeriodsSpec)

/-- 'tallystonelaw14.LedgerOrder', WHERE WHAT IT READS IS OF BULK AT MOST 1048576: true; the input reads as it did. -/
def ledgerOrderUptoRow : OpenClaim := { program := "ythokdplikidhiaagreat", sum := "2dc3174d338d5394548f24ec5333ccdae63dc2e57c185135529b12cfed429346", func := "tallystone/tallystonelaw14.LedgerOrder", spec := "ledgerOrder", unfollowed := true, recurses := true, plainKeys := false, apart := false, narrowed := true }
def LedgerOrderUptoSaid : Prop := ledgerOrderUptoRow.holds Tryz.pinned (OpenSpec.upto ledgerOrderSpec)

/-- 'tallystonelaw14.LedgerReversed', WHERE WHAT IT READS IS OF BULK AT MOST 1048576: true; the input reads as it did. -/
def ledgerReversedUptoRow : OpenClaim := { program := "ythokdplikidhiaagreat", sum := "2dc3174d338d5394548f24ec5333ccdae63dc2e57c185135529b12cfed429346", func := "tallystone/tallystonelaw14.LedgerReversed", spec := "ledgerReversed", unfollowed := true, recurses := true, plainKeys := false, apart := false, narrowed := true }
def LedgerReversedUptoSaid : Prop := ledgerReversedUptoRow.holds Tryz.pinned (OpenSpec.upto ledgerReversedSpec)

end Rows
end Go.Proofs.YthokdplikidhiaaGreat
