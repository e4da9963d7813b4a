/-
  No cell of these rows narrows 'for every input' (looked for: loops, veiled, ifaces, maps, wideKeys, modest, calm, conditions, laid).
  DERIVED. THE GIVEN ROWS OF THIS SEAT. 4 by the template 'for every input the law returns true; each argument reads behind the call as it read before'; 0 by the template 'total and deterministic' (their statements: YtompehjecamdiaaTotals.lean).
  GIVEN WITH THE SEED: the statements are not yours to turn. If you find one false, say at which input.
  Laid BY PROGRAM, IN A SANDBOX (cutbox-rows.mjs): the forced cells as the released guide's own fill.sh prints them over the translation 3fb564f97f76b72a… (all of the seat's roots in one cut). By AI agents, Wed Nov 11 2026. No macro, syntax, notation, axiom, sorry.
-/
import Derived.Test.YtompehjecamdiaaChecked
import GoSem.Claim
import GoSem.ClaimJoined
import GoSem.ClaimMapViews
import Derived.JoinedTies
import Derived.KernelRfl
namespace Go.Proofs.Ytompehjecamdiaa
/- THE CELL 'sum', in the pinned program and in every row, IS THE sha256 OF THE DUMP (.gsa) THAT YtompehjecamdiaaProg.lean LOADS. Nothing in Lean hashes anything: it is a label: what it is worth is what the hold of that sum in a sandbox is worth. -/
noncomputable def Try.pinned : Pinned := { name := "ytompehjecamdiaa", sum := "3fb564f97f76b72ae31bb7252198d3f529e22e7ee7fe0cd8337d8959a63792c9", checked := Try.checked }
namespace Rows
def none {H : Type} : Left H := { results := [], args := [] }

/-- 'tallystonelaw15.CarryPlace': WHATEVER THE INPUT: true; the input reads as it did. -/
def carryPlaceSpec : ChangeSpec := { name := "carryPlace", fn := fun _ => fun
  | [d1, d2, d3] => { results := [.lit (.bool true)], args := [d1, d2, d3] }
  | _ => none }
def carryPlaceRow : OpenClaim := { program := "ytompehjecamdiaa", sum := "3fb564f97f76b72ae31bb7252198d3f529e22e7ee7fe0cd8337d8959a63792c9", func := "tallystone/tallystonelaw15.CarryPlace", spec := "carryPlace", unfollowed := true, recurses := true, plainKeys := false, apart := false }
def CarryPlaceSaid : Prop := carryPlaceRow.holds Try.pinned (OpenSpec.ofChange carryPlaceSpec)

/-- ITS FALSE NEIGHBOUR: 'it returns false'. Refute it at one input. -/
def carryPlaceWrong : ChangeSpec := { name := "carryPlace", fn := fun _ => fun
  | [d1, d2, d3] => { results := [.lit (.bool false)], args := [d1, d2, d3] }
  | _ => none }
def CarryPlaceWrongFalsely : Prop := carryPlaceRow.holds Try.pinned (OpenSpec.ofChange carryPlaceWrong)

/-- 'tallystonelaw15.CarryResult': WHATEVER THE INPUT: true; the input reads as it did. -/
def carryResultSpec : ChangeSpec := { name := "carryResult", fn := fun _ => fun
  | [d1, d2, d3] => { results := [.lit (.bool true)], args := [d1, d2, d3] }
  | _ => none }
def carryResultRow : OpenClaim := { program := "ytompehjecamdiaa", sum := "3fb564f97f76b72ae31bb7252198d3f529e22e7ee7fe0cd8337d8959a63792c9", func := "tallystone/tallystonelaw15.CarryResult", spec := "carryResult", unfollowed := true, recurses := true, plainKeys := false, apart := false }
def CarryResultSaid : Prop := carryResultRow.holds Try.pinned (OpenSpec.ofChange carryResultSpec)

/-- ITS FALSE NEIGHBOUR: 'it returns false'. Refute it at one input. -/
def carryResultWrong : ChangeSpec := { name := "carryResult", fn := fun _ => fun
  | [d1, d2, d3] => { results := [.lit (.bool false)], args := [d1, d2, d3] }
  | _ => none }
def CarryResultWrongFalsely : Prop := carryResultRow.holds Try.pinned (OpenSpec.ofChange carryResultWrong)

/-- 'tallystonelaw15.CarryKeeps': WHATEVER THE INPUT: true; the input reads as it did. -/
def carryKeepsSpec : ChangeSpec := { name := "carryKeeps", fn := fun _ => fun
  | [d1, d2, d3] => { results := [.lit (.bool true)], args := [d1, d2, d3] }
  | _ => none }
def carryKeepsRow : OpenClaim := { program := "ytompehjecamdiaa", sum := "3fb564f97f76b72ae31bb7252198d3f529e22e7ee7fe0cd8337d8959a63792c9", func := "tallystone/tallystonelaw15.CarryKeeps", spec := "carryKeeps", unfollowed := true, recurses := true, plainKeys := false, apart := false }
def CarryKeepsSaid : Prop := carryKeepsRow.holds Try.pinned (OpenSpec.ofChange carryKeepsSpec)

/-- ITS FALSE NEIGHBOUR: 'it returns false'. Refute it at one input. -/
def carryKeepsWrong : ChangeSpec := { name := "carryKeeps", fn := fun _ => fun
  | [d1, d2, d3] => { results := [.lit (.bool false)], args := [d1, d2, d3] }
  | _ => none }
def CarryKeepsWrongFalsely : Prop := carryKeepsRow.holds Try.pinned (OpenSpec.ofChange carryKeepsWrong)

/-- 'tallystonelaw15.CarryOwn': WHATEVER THE INPUT: true; the input reads as it did. -/
def carryOwnSpec : ChangeSpec := { name := "carryOwn", fn := fun _ => fun
  | [d1, d2, d3] => { results := [.lit (.bool true)], args := [d1, d2, d3] }
  | _ => none }
def carryOwnRow : OpenClaim := { program := "ytompehjecamdiaa", sum := "3fb564f97f76b72ae31bb7252198d3f529e22e7ee7fe0cd8337d8959a63792c9", func := "tallystone/tallystonelaw15.CarryOwn", spec := "carryOwn", unfollowed := true, recurses := true, plainKeys := false, apart := false }
def CarryOwnSaid : Prop := carryOwnRow.holds Try.pinned (OpenSpec.ofChange carryOwnSpec)

/-- ITS FALSE NEIGHBOUR: 'it returns false'. Refute it at one input. -/
def carryOwnWrong : ChangeSpec := { name := "carryOwn", fn := fun _ => fun
  | [d1, d2, d3] => { results := [.lit (.bool false)], args := [d1, d2, d3] }
  | _ => none }
def CarryOwnWrongFalsely : Prop := carryOwnRow.holds Try.pinned (OpenSpec.ofChange carryOwnWrong)

/- THE SECOND FORM. 'bulk': how many values and letters a reading holds, each counted each time it is reached (what is shared counts as often as it is met; a slice's spare places count too). A statement '..UptoSaid' is the law's where the arguments, and the package variables that the reading takes, are together of bulk at most 1048576: NARROWER than '..Said'. Prove '..Said' where nothing that the law and all that it calls make is longer than what came in: it says more and counts as full. Else prove '..UptoSaid'. A law counts once. -/
mutual
def uptoBulk {H : Type} : DataW H → Nat
  | .lit (.string bytes) => bytes.length + 1
  | .lit _ => 1
  | .nil => 1
  | .ptr d => uptoBulk d + 1
  | .slice elems spare => uptoBulkAll elems + uptoBulkAll spare + 1
  | .agg parts => uptoBulkAll parts + 1
  | .iface _ d => uptoBulk d + 1
  | .map entries => uptoBulkEntries entries + 1
  | .held _ => 1
def uptoBulkAll {H : Type} : List (DataW H) → Nat
  | [] => 0
  | d :: r => uptoBulk d + uptoBulkAll r
def uptoBulkEntries {H : Type} : List (Lit × DataW H) → Nat
  | [] => 0
  | x :: r => uptoBulkEntry x + uptoBulkEntries r
def uptoBulkEntry {H : Type} : Lit × DataW H → Nat
  | (.string bytes, d) => bytes.length + uptoBulk d + 1
  | (_, d) => uptoBulk d + 1
 end
def uptoSmall : (H : Type) → List (DataW H) → Bool := fun _ ds => decide (uptoBulkAll ds ≤ 1048576)
def OpenSpec.upto (s : _root_.Go.ChangeSpec) : _root_.Go.OpenSpec := { _root_.Go.OpenSpec.ofChange s with cond := some uptoSmall }

/-- 'tallystonelaw15.CarryPlace', WHERE WHAT IT READS IS OF BULK AT MOST 1048576: true; the input reads as it did. -/
def carryPlaceUptoRow : OpenClaim := { program := "ytompehjecamdiaa", sum := "3fb564f97f76b72ae31bb7252198d3f529e22e7ee7fe0cd8337d8959a63792c9", func := "tallystone/tallystonelaw15.CarryPlace", spec := "carryPlace", unfollowed := true, recurses := true, plainKeys := false, apart := false, narrowed := true }
def CarryPlaceUptoSaid : Prop := carryPlaceUptoRow.holds Try.pinned (OpenSpec.upto carryPlaceSpec)

/-- 'tallystonelaw15.CarryResult', WHERE WHAT IT READS IS OF BULK AT MOST 1048576: true; the input reads as it did. -/
def carryResultUptoRow : OpenClaim := { program := "ytompehjecamdiaa", sum := "3fb564f97f76b72ae31bb7252198d3f529e22e7ee7fe0cd8337d8959a63792c9", func := "tallystone/tallystonelaw15.CarryResult", spec := "carryResult", unfollowed := true, recurses := true, plainKeys := false, apart := false, narrowed := true }
def CarryResultUptoSaid : Prop := carryResultUptoRow.holds Try.pinned (OpenSpec.upto carryResultSpec)

/-- 'tallystonelaw15.CarryKeeps', WHERE WHAT IT READS IS OF BULK AT MOST 1048576: true; the input reads as it did. -/
def carryKeepsUptoRow : OpenClaim := { program := "ytompehjecamdiaa", sum := "3fb564f97f76b72ae31bb7252198d3f529e22e7ee7fe0cd8337d8959a63792c9", func := "tallystone/tallystonelaw15.CarryKeeps", spec := "carryKeeps", unfollowed := true, recurses := true, plainKeys := false, apart := false, narrowed := true }
def CarryKeepsUptoSaid : Prop := carryKeepsUptoRow.holds Try.pinned (OpenSpec.upto carryKeepsSpec)

/-- 'tallystonelaw15.CarryOwn', WHERE WHAT IT READS IS OF BULK AT MOST 1048576: true; the input reads as it did. -/
def carryOwnUptoRow : OpenClaim := { program := "ytompehjecamdiaa", sum := "3fb564f97f76b72ae31bb7252198d3f529e22e7ee7fe0cd8337d8959a63792c9", func := "tallystone/tallystonelaw15.CarryOwn", spec := "carryOwn", unfollowed := true, recurses := true, plainKeys := false, apart := false, narrowed := true }
def CarryOwnUptoSaid : Prop := carryOwnUptoRow.holds Try.pinned (OpenSpec.upto carryOwnSpec)

end Rows
end Go.Proofs.Ytompehjecamdiaa
