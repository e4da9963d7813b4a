/-
  No cell of these rows narrows 'for every input' (looked for: loops, veiled, ifaces, maps, wideKeys, modest, calm, conditions, laid).
  DERIVED. THE GIVEN ROWS OF THIS SEAT. 6 by the template 'for every input the law returns true; each argument reads behind the call as it read before'; 0 by the template 'total and deterministic' (their statements: YtmahnpbjjadipaaTotals.lean).
  GIVEN WITH THE SEED: the statements are not yours to turn. If you find one false, say at which input.
  Laid BY PROGRAM, IN A SANDBOX (cutbox-rows.mjs): the forced cells as the released guide's own fill.sh prints them over the translation 2b212f7d22a23828… (all of the seat's roots in one cut). By AI agents, Wed Nov 11 2026. No macro, syntax, notation, axiom, sorry.
-/
import Derived.Test.YtmahnpbjjadipaaChecked
import GoSem.Claim
import GoSem.ClaimJoined
import GoSem.ClaimMapViews
import Derived.JoinedTies
import Derived.KernelRfl
namespace Go.Proofs.Ytmahnpbjjadipaa
/- THE CELL 'sum', in the pinned program and in every row, IS THE sha256 OF THE DUMP (.gsa) THAT YtmahnpbjjadipaaProg.lean LOADS. Nothing in Lean hashes anything: it is a label: what it is worth is what the hold of that sum in a sandbox is worth. -/
noncomputable def Try.pinned : Pinned := { name := "ytmahnpbjjadipaa", sum := "2b212f7d22a23828a868fcf75e671e2491e23f9962092fc194b0eaef8d346de3", checked := Try.checked }
namespace Rows
def none {H : Type} : Left H := { results := [], args := [] }

/-- 'tallystonelaw09.MappingValid': WHATEVER THE INPUT: true; the input reads as it did. -/
def mappingValidSpec : ChangeSpec := { name := "mappingValid", fn := fun _ => fun
  | [d1, d2] => { results := [.lit (.bool true)], args := [d1, d2] }
  | _ => none }
def mappingValidRow : OpenClaim := { program := "ytmahnpbjjadipaa", sum := "2b212f7d22a23828a868fcf75e671e2491e23f9962092fc194b0eaef8d346de3", func := "tallystone/tallystonelaw09.MappingValid", spec := "mappingValid", unfollowed := true, recurses := true, plainKeys := false, apart := false }
def MappingValidSaid : Prop := mappingValidRow.holds Try.pinned (OpenSpec.ofChange mappingValidSpec)

/-- ITS FALSE NEIGHBOUR: 'it returns false'. Refute it at one input. -/
def mappingValidWrong : ChangeSpec := { name := "mappingValid", fn := fun _ => fun
  | [d1, d2] => { results := [.lit (.bool false)], args := [d1, d2] }
  | _ => none }
def MappingValidWrongFalsely : Prop := mappingValidRow.holds Try.pinned (OpenSpec.ofChange mappingValidWrong)

/-- 'tallystonelaw09.MappingAt': WHATEVER THE INPUT: true; the input reads as it did. -/
def mappingAtSpec : ChangeSpec := { name := "mappingAt", fn := fun _ => fun
  | [d1, d2, d3] => { results := [.lit (.bool true)], args := [d1, d2, d3] }
  | _ => none }
def mappingAtRow : OpenClaim := { program := "ytmahnpbjjadipaa", sum := "2b212f7d22a23828a868fcf75e671e2491e23f9962092fc194b0eaef8d346de3", func := "tallystone/tallystonelaw09.MappingAt", spec := "mappingAt", unfollowed := true, recurses := true, plainKeys := false, apart := false }
def MappingAtSaid : Prop := mappingAtRow.holds Try.pinned (OpenSpec.ofChange mappingAtSpec)

/-- ITS FALSE NEIGHBOUR: 'it returns false'. Refute it at one input. -/
def mappingAtWrong : ChangeSpec := { name := "mappingAt", fn := fun _ => fun
  | [d1, d2, d3] => { results := [.lit (.bool false)], args := [d1, d2, d3] }
  | _ => none }
def MappingAtWrongFalsely : Prop := mappingAtRow.holds Try.pinned (OpenSpec.ofChange mappingAtWrong)

/-- 'tallystonelaw09.MappingMove': WHATEVER THE INPUT: true; the input reads as it did. -/
def mappingMoveSpec : ChangeSpec := { name := "mappingMove", fn := fun _ => fun
  | [d1, d2, d3] => { results := [.lit (.bool true)], args := [d1, d2, d3] }
  | _ => none }
def mappingMoveRow : OpenClaim := { program := "ytmahnpbjjadipaa", sum := "2b212f7d22a23828a868fcf75e671e2491e23f9962092fc194b0eaef8d346de3", func := "tallystone/tallystonelaw09.MappingMove", spec := "mappingMove", unfollowed := true, recurses := true, plainKeys := false, apart := false }
def MappingMoveSaid : Prop := mappingMoveRow.holds Try.pinned (OpenSpec.ofChange mappingMoveSpec)

/-- ITS FALSE NEIGHBOUR: 'it returns false'. Refute it at one input. -/
def mappingMoveWrong : ChangeSpec := { name := "mappingMove", fn := fun _ => fun
  | [d1, d2, d3] => { results := [.lit (.bool false)], args := [d1, d2, d3] }
  | _ => none }
def MappingMoveWrongFalsely : Prop := mappingMoveRow.holds Try.pinned (OpenSpec.ofChange mappingMoveWrong)

/-- 'tallystonelaw09.MappingSum': WHATEVER THE INPUT: true; the input reads as it did. -/
def mappingSumSpec : ChangeSpec := { name := "mappingSum", fn := fun _ => fun
  | [d1, d2, d3] => { results := [.lit (.bool true)], args := [d1, d2, d3] }
  | _ => none }
def mappingSumRow : OpenClaim := { program := "ytmahnpbjjadipaa", sum := "2b212f7d22a23828a868fcf75e671e2491e23f9962092fc194b0eaef8d346de3", func := "tallystone/tallystonelaw09.MappingSum", spec := "mappingSum", unfollowed := true, recurses := true, plainKeys := false, apart := false }
def MappingSumSaid : Prop := mappingSumRow.holds Try.pinned (OpenSpec.ofChange mappingSumSpec)

/-- ITS FALSE NEIGHBOUR: 'it returns false'. Refute it at one input. -/
def mappingSumWrong : ChangeSpec := { name := "mappingSum", fn := fun _ => fun
  | [d1, d2, d3] => { results := [.lit (.bool false)], args := [d1, d2, d3] }
  | _ => none }
def MappingSumWrongFalsely : Prop := mappingSumRow.holds Try.pinned (OpenSpec.ofChange mappingSumWrong)

/-- 'tallystonelaw09.MappingLater': WHATEVER THE INPUT: true; the input reads as it did. -/
def mappingLaterSpec : ChangeSpec := { name := "mappingLater", fn := fun _ => fun
  | [d1, d2, d3] => { results := [.lit (.bool true)], args := [d1, d2, d3] }
  | _ => none }
def mappingLaterRow : OpenClaim := { program := "ytmahnpbjjadipaa", sum := "2b212f7d22a23828a868fcf75e671e2491e23f9962092fc194b0eaef8d346de3", func := "tallystone/tallystonelaw09.MappingLater", spec := "mappingLater", unfollowed := true, recurses := true, plainKeys := false, apart := false }
def MappingLaterSaid : Prop := mappingLaterRow.holds Try.pinned (OpenSpec.ofChange mappingLaterSpec)

/-- ITS FALSE NEIGHBOUR: 'it returns false'. Refute it at one input. -/
def mappingLaterWrong : ChangeSpec := { name := "mappingLater", fn := fun _ => fun
  | [d1, d2, d3] => { results := [.lit (.bool false)], args := [d1, d2, d3] }
  | _ => none }
def MappingLaterWrongFalsely : Prop := mappingLaterRow.holds Try.pinned (OpenSpec.ofChange mappingLaterWrong)

/-- 'tallystonelaw09.MappingOrder': WHATEVER THE INPUT: true; the input reads as it did. -/
def mappingOrderSpec : ChangeSpec := { name := "mappingOrder", fn := fun _ => fun
  | [d1, d2, d3] => { results := [.lit (.bool true)], args := [d1, d2, d3] }
  | _ => none }
def mappingOrderRow : OpenClaim := { program := "ytmahnpbjjadipaa", sum := "2b212f7d22a23828a868fcf75e671e2491e23f9962092fc194b0eaef8d346de3", func := "tallystone/tallystonelaw09.MappingOrder", spec := "mappingOrder", unfollowed := true, recurses := true, plainKeys := false, apart := false }
def MappingOrderSaid : Prop := mappingOrderRow.holds Try.pinned (OpenSpec.ofChange mappingOrderSpec)

/-- ITS FALSE NEIGHBOUR: 'it returns false'. Refute it at one input. -/
def mappingOrderWrong : ChangeSpec := { name := "mappingOrder", fn := fun _ => fun
  | [d1, d2, d3] => { results := [.lit (.bool false)], args := [d1, d2, d3] }
  | _ => none }
def MappingOrderWrongFalsely : Prop := mappingOrderRow.holds Try.pinned (OpenSpec.ofChange mappingOrderWrong)

/- THE SECOND FORM. 'bulk': how many values and letters a reading holds, each counted each time it is reached (what is shared counts as often as it is met; a slice's spare places count too). A statement '..UptoSaid' is the law's where the arguments, and the package variables that the reading takes, are together of bulk at most 1048576: NARROWER than '..Said'. Prove '..Said' where nothing that the law and all that it calls make is longer than what came in: it says more and counts as full. Else prove '..UptoSaid'. A law counts once. -/
mutual
def uptoBulk {H : Type} : DataW H → Nat
  | .lit (.string bytes) => bytes.length + 1
  | .lit _ => 1
  | .nil => 1
  | .ptr d => uptoBulk d + 1
  | .slice elems spare => uptoBulkAll elems + uptoBulkAll spare + 1
  | .agg parts => uptoBulkAll parts + 1
  | .iface _ d => uptoBulk d + 1
  | .map entries => uptoBulkEntries entries + 1
  | .held _ => 1
def uptoBulkAll {H : Type} : List (DataW H) → Nat
  | [] => 0
  | d :: r => uptoBulk d + uptoBulkAll r
def uptoBulkEntries {H : Type} : List (Lit × DataW H) → Nat
  | [] => 0
  | x :: r => uptoBulkEntry x + uptoBulkEntries r
def uptoBulkEntry {H : Type} : Lit × DataW H → Nat
  | (.string bytes, d) => bytes.length + uptoBulk d + 1
  | (_, d) => uptoBulk d + 1
 end
def uptoSmall : (H : Type) → List (DataW H) → Bool := fun _ ds => decide (uptoBulkAll ds ≤ 1048576)
def OpenSpec.upto (s : _root_.Go.ChangeSpec) : _root_.Go.OpenSpec := { _root_.Go.OpenSpec.ofChange s with cond := some uptoSmall }

/-- 'tallystonelaw09.MappingValid', WHERE WHAT IT READS IS OF BULK AT MOST 1048576: true; the input reads as it did. -/
def mappingValidUptoRow : OpenClaim := { program := "ytmahnpbjjadipaa", sum := "2b212f7d22a23828a868fcf75e671e2491e23f9962092fc194b0eaef8d346de3", func := "tallystone/tallystonelaw09.MappingValid", spec := "mappingValid", unfollowed := true, recurses := true, plainKeys := false, apart := false, narrowed := true }
def MappingValidUptoSaid : Prop := mappingValidUptoRow.holds Try.pinned (OpenSpec.upto mappingValidSpec)

/-- 'tallystonelaw09.MappingAt', WHERE WHAT IT READS IS OF BULK AT MOST 1048576: true; the input reads as it did. -/
def mappingAtUptoRow : OpenClaim := { program := "ytmahnpbjjadipaa", sum := "2b212f7d22a23828a868fcf75e671e2491e23f9962092fc194b0eaef8d346de3", func := "tallystone/tallystonelaw09.MappingAt", spec := "mappingAt", unfollowed := true, recurses := true, plainKeys := false, apart := false, narrowed := true }
def MappingAtUptoSaid : Prop := mappingAtUptoRow.holds Try.pinned (OpenSpec.upto mappingAtSpec)

/-- 'tallystonelaw09.MappingMove', WHERE WHAT IT READS IS OF BULK AT MOST 1048576: true; the input reads as it did. -/
def mappingMoveUptoRow : OpenClaim := { program := "ytmahnpbjjadipaa", sum := "2b212f7d22a23828a868fcf75e671e2491e23f9962092fc194b0eaef8d346de3", func := "tallystone/tallystonelaw09.MappingMove", spec := "mappingMove", unfollowed := true, recurses := true, plainKeys := false, apart := false, narrowed := true }
def MappingMoveUptoSaid : Prop := mappingMoveUptoRow.holds Try.pinned (OpenSpec.upto mappingMoveSpec)

/-- 'tallystonelaw09.MappingSum', WHERE WHAT IT READS IS OF BULK AT MOST 1048576: true; the input reads as it did. -/
def mappingSumUptoRow : OpenClaim := { program := "ytmahnpbjjadipaa", sum := "2b212f7d22a23828a868fcf75e671e2491e23f9962092fc194b0eaef8d346de3", func := "tallystone/tallystonelaw09.MappingSum", spec := "mappingSum", unfollowed := true, recurses := true, plainKeys := false, apart := false, narrowed := true }
def MappingSumUptoSaid : Prop := mappingSumUptoRow.holds Try.pinned (OpenSpec.upto mappingSumSpec)

/-- 'tallystonelaw09.MappingLater', WHERE WHAT IT READS IS OF BULK AT MOST 1048576: true; the input reads as it did. -/
def mappingLaterUptoRow : OpenClaim := { program := "ytmahnpbjjadipaa", sum := "2b212f7d22a23828a868fcf75e671e2491e23f9962092fc194b0eaef8d346de3", func := "tallystone/tallystonelaw09.MappingLater", spec := "mappingLater", unfollowed := true, recurses := true, plainKeys := false, apart := false, narrowed := true }
def MappingLaterUptoSaid : Prop := mappingLaterUptoRow.holds Try.pinned (OpenSpec.upto mappingLaterSpec)

/-- 'tallystonelaw09.MappingOrder', WHERE WHAT IT READS IS OF BULK AT MOST 1048576: true; the input reads as it did. -/
def mappingOrderUptoRow : OpenClaim := { program := "ytmahnpbjjadipaa", sum := "2b212f7d22a23828a868fcf75e671e2491e23f9962092fc194b0eaef8d346de3", func := "tallystone/tallystonelaw09.MappingOrder", spec := "mappingOrder", unfollowed := true, recurses := true, plainKeys := false, apart := false, narrowed := true }
def MappingOrderUptoSaid : Prop := mappingOrderUptoRow.holds Try.pinned (OpenSpec.upto mappingOrderSpec)

end Rows
end Go.Proofs.Ytmahnpbjjadipaa
