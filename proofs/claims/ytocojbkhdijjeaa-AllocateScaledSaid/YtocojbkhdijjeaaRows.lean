/-
  No cell of these rows narrows 'for every input' (looked for: loops, veiled, ifaces, maps, wideKeys, modest, calm, conditions, laid).
  DERIVED. THE GIVEN ROWS OF THIS SEAT. 8 by the template 'for every input the law returns true; each argument reads behind the call as it read before'; 0 by the template 'total and deterministic' (their statements: YtocojbkhdijjeaaTotals.lean).
  GIVEN WITH THE SEED: the statements are not yours to turn. If you find one false, say at which input.
  Laid BY PROGRAM, IN A SANDBOX (cutbox-rows.mjs): the forced cells as the released guide's own fill.sh prints them over the translation acd335d5e5062ef8… (all of the seat's roots in one cut). By AI agents, Wed Nov 11 2026. No macro, syntax, notation, axiom, sorry.
-/
import Derived.Test.YtocojbkhdijjeaaChecked
import GoSem.Claim
import GoSem.ClaimJoined
import GoSem.ClaimMapViews
import Derived.JoinedTies
import Derived.KernelRfl
namespace Go.Proofs.Ytocojbkhdijjeaa
/- THE CELL 'sum', in the pinned program and in every row, IS THE sha256 OF THE DUMP (.gsa) THAT YtocojbkhdijjeaaProg.lean LOADS. Nothing in Lean hashes anything: it is a label: what it is worth is what the hold of that sum in a sandbox is worth. -/
noncomputable def Try.pinned : Pinned := { name := "ytocojbkhdijjeaa", sum := "acd335d5e5062ef8041f398b9757fcb89ce13336117a6e0f537070157e6da778", checked := Try.checked }
namespace Rows
def none {H : Type} : Left H := { results := [], args := [] }

/-- 'tallystonelaw05.AllocateRunning': WHATEVER THE INPUT: true; the input reads as it did. -/
def allocateRunningSpec : ChangeSpec := { name := "allocateRunning", fn := fun _ => fun
  | [d1, d2] => { results := [.lit (.bool true)], args := [d1, d2] }
  | _ => none }
def allocateRunningRow : OpenClaim := { program := "ytocojbkhdijjeaa", sum := "acd335d5e5062ef8041f398b9757fcb89ce13336117a6e0f537070157e6da778", func := "tallystone/tallystonelaw05.AllocateRunning", spec := "allocateRunning", unfollowed := true, recurses := true, apart := false }
def AllocateRunningSaid : Prop := allocateRunningRow.holds Try.pinned (OpenSpec.ofChange allocateRunningSpec)

/-- ITS FALSE NEIGHBOUR: 'it returns false'. Refute it at one input. -/
def allocateRunningWrong : ChangeSpec := { name := "allocateRunning", fn := fun _ => fun
  | [d1, d2] => { results := [.lit (.bool false)], args := [d1, d2] }
  | _ => none }
def AllocateRunningWrongFalsely : Prop := allocateRunningRow.holds Try.pinned (OpenSpec.ofChange allocateRunningWrong)

/-- 'tallystonelaw05.AllocateWhole': WHATEVER THE INPUT: true; the input reads as it did. -/
def allocateWholeSpec : ChangeSpec := { name := "allocateWhole", fn := fun _ => fun
  | [d1, d2, d3] => { results := [.lit (.bool true)], args := [d1, d2, d3] }
  | _ => none }
def allocateWholeRow : OpenClaim := { program := "ytocojbkhdijjeaa", sum := "acd335d5e5062ef8041f398b9757fcb89ce13336117a6e0f537070157e6da778", func := "tallystone/tallystonelaw05.AllocateWhole", spec := "allocateWhole", unfollowed := true, recurses := true, apart := false }
def AllocateWholeSaid : Prop := allocateWholeRow.holds Try.pinned (OpenSpec.ofChange allocateWholeSpec)

/-- ITS FALSE NEIGHBOUR: 'it returns false'. Refute it at one input. -/
def allocateWholeWrong : ChangeSpec := { name := "allocateWhole", fn := fun _ => fun
  | [d1, d2, d3] => { results := [.lit (.bool false)], args := [d1, d2, d3] }
  | _ => none }
def AllocateWholeWrongFalsely : Prop := allocateWholeRow.holds Try.pinned (OpenSpec.ofChange allocateWholeWrong)

/-- 'tallystonelaw05.AllocateFirst': WHATEVER THE INPUT: true; the input reads as it did. -/
def allocateFirstSpec : ChangeSpec := { name := "allocateFirst", fn := fun _ => fun
  | [d1, d2, d3] => { results := [.lit (.bool true)], args := [d1, d2, d3] }
  | _ => none }
def allocateFirstRow : OpenClaim := { program := "ytocojbkhdijjeaa", sum := "acd335d5e5062ef8041f398b9757fcb89ce13336117a6e0f537070157e6da778", func := "tallystone/tallystonelaw05.AllocateFirst", spec := "allocateFirst", unfollowed := true, recurses := true, apart := false }
def AllocateFirstSaid : Prop := allocateFirstRow.holds Try.pinned (OpenSpec.ofChange allocateFirstSpec)

/-- ITS FALSE NEIGHBOUR: 'it returns false'. Refute it at one input. -/
def allocateFirstWrong : ChangeSpec := { name := "allocateFirst", fn := fun _ => fun
  | [d1, d2, d3] => { results := [.lit (.bool false)], args := [d1, d2, d3] }
  | _ => none }
def AllocateFirstWrongFalsely : Prop := allocateFirstRow.holds Try.pinned (OpenSpec.ofChange allocateFirstWrong)

/-- 'tallystonelaw05.AllocateSplit': WHATEVER THE INPUT: true; the input reads as it did. -/
def allocateSplitSpec : ChangeSpec := { name := "allocateSplit", fn := fun _ => fun
  | [d1, d2] => { results := [.lit (.bool true)], args := [d1, d2] }
  | _ => none }
def allocateSplitRow : OpenClaim := { program := "ytocojbkhdijjeaa", sum := "acd335d5e5062ef8041f398b9757fcb89ce13336117a6e0f537070157e6da778", func := "tallystone/tallystonelaw05.AllocateSplit", spec := "allocateSplit", unfollowed := true, recurses := true, apart := false }
def AllocateSplitSaid : Prop := allocateSplitRow.holds Try.pinned (OpenSpec.ofChange allocateSplitSpec)

/-- ITS FALSE NEIGHBOUR: 'it returns false'. Refute it at one input. -/
def allocateSplitWrong : ChangeSpec := { name := "allocateSplit", fn := fun _ => fun
  | [d1, d2] => { results := [.lit (.bool false)], args := [d1, d2] }
  | _ => none }
def AllocateSplitWrongFalsely : Prop := allocateSplitRow.holds Try.pinned (OpenSpec.ofChange allocateSplitWrong)

/-- 'tallystonelaw05.AllocateFair': WHATEVER THE INPUT: true; the input reads as it did. -/
def allocateFairSpec : ChangeSpec := { name := "allocateFair", fn := fun _ => fun
  | [d1, d2, d3] => { results := [.lit (.bool true)], args := [d1, d2, d3] }
  | _ => none }
def allocateFairRow : OpenClaim := { program := "ytocojbkhdijjeaa", sum := "acd335d5e5062ef8041f398b9757fcb89ce13336117a6e0f537070157e6da778", func := "tallystone/tallystonelaw05.AllocateFair", spec := "allocateFair", unfollowed := true, recurses := true, apart := false }
def AllocateFairSaid : Prop := allocateFairRow.holds Try.pinned (OpenSpec.ofChange allocateFairSpec)

/-- ITS FALSE NEIGHBOUR: 'it returns false'. Refute it at one input. -/
def allocateFairWrong : ChangeSpec := { name := "allocateFair", fn := fun _ => fun
  | [d1, d2, d3] => { results := [.lit (.bool false)], args := [d1, d2, d3] }
  | _ => none }
def AllocateFairWrongFalsely : Prop := allocateFairRow.holds Try.pinned (OpenSpec.ofChange allocateFairWrong)

/-- 'tallystonelaw05.AllocateOrder': WHATEVER THE INPUT: true; the input reads as it did. -/
def allocateOrderSpec : ChangeSpec := { name := "allocateOrder", fn := fun _ => fun
  | [d1, d2] => { results := [.lit (.bool true)], args := [d1, d2] }
  | _ => none }
def allocateOrderRow : OpenClaim := { program := "ytocojbkhdijjeaa", sum := "acd335d5e5062ef8041f398b9757fcb89ce13336117a6e0f537070157e6da778", func := "tallystone/tallystonelaw05.AllocateOrder", spec := "allocateOrder", unfollowed := true, recurses := true, apart := false }
def AllocateOrderSaid : Prop := allocateOrderRow.holds Try.pinned (OpenSpec.ofChange allocateOrderSpec)

/-- ITS FALSE NEIGHBOUR: 'it returns false'. Refute it at one input. -/
def allocateOrderWrong : ChangeSpec := { name := "allocateOrder", fn := fun _ => fun
  | [d1, d2] => { results := [.lit (.bool false)], args := [d1, d2] }
  | _ => none }
def AllocateOrderWrongFalsely : Prop := allocateOrderRow.holds Try.pinned (OpenSpec.ofChange allocateOrderWrong)

/-- 'tallystonelaw05.AllocateScaled': WHATEVER THE INPUT: true; the input reads as it did. -/
def allocateScaledSpec : ChangeSpec := { name := "allocateScaled", fn := fun _ => fun
  | [d1, d2, d3] => { results := [.lit (.bool true)], args := [d1, d2, d3] }
  | _ => none }
def allocateScaledRow : OpenClaim := { program := "ytocojbkhdijjeaa", sum := "acd335d5e5062ef8041f398b9757fcb89ce13336117a6e0f537070157e6da778", func := "tallystone/tallystonelaw05.AllocateScaled", spec := "allocateScaled", unfollowed := true, recurses := true, apart := false }
def AllocateScaledSaid : Prop := allocateScaledRow.holds Try.pinned (OpenSpec.ofChange allocateScaledSpec)

/-- ITS FALSE NEIGHBOUR: 'it returns false'. Refute it at one input. -/
def allocateScaledWrong : ChangeSpec := { name := "allocateScaled", fn := fun _ => fun
  | [d1, d2, d3] => { results := [.lit (.bool false)], args := [d1, d2, d3] }
  | _ => none }
def AllocateScaledWrongFalsely : Prop := allocateScaledRow.holds Try.pinned (OpenSpec.ofChange allocateScaledWrong)

/-- 'tallystonelaw05.AllocateEven': WHATEVER THE INPUT: true; the input reads as it did. -/
def allocateEvenSpec : ChangeSpec := { name := "allocateEven", fn := fun _ => fun
  | [d1, d2] => { results := [.lit (.bool true)], args := [d1, d2] }
  | _ => none }
def allocateEvenRow : OpenClaim := { program := "ytocojbkhdijjeaa", sum := "acd335d5e5062ef8041f398b9757fcb89ce13336117a6e0f537070157e6da778", func := "tallystone/tallystonelaw05.AllocateEven", spec := "allocateEven", unfollowed := true, recurses := true, apart := false }
def AllocateEvenSaid : Prop := allocateEvenRow.holds Try.pinned (OpenSpec.ofChange allocateEvenSpec)

/-- ITS FALSE NEIGHBOUR: 'it returns false'. Refute it at one input. -/
def allocateEvenWrong : ChangeSpec := { name := "allocateEven", fn := fun _ => fun
  | [d1, d2] => { results := [.lit (.bool false)], args := [d1, d2] }
  | _ => none }
def AllocateEvenWrongFalsely : Prop := allocateEvenRow.holds Try.pinned (OpenSpec.ofChange allocateEvenWrong)

/- THE SECOND FORM. 'bulk': how many values and letters a reading holds, each counted each time it is reached (what is shared counts as often as it is met; a slice's spare places count too). A statement '..UptoSaid' is the law's where the arguments, and the package variables that the reading takes, are together of bulk at most 1048576: NARROWER than '..Said'. Prove '..Said' where nothing that the law and all that it calls make is longer than what came in: it says more and counts as full. Else prove '..UptoSaid'. A law counts once. -/
mutual
def uptoBulk {H : Type} : DataW H → Nat
  | .lit (.string bytes) => bytes.length + 1
  | .lit _ => 1
  | .nil => 1
  | .ptr d => uptoBulk d + 1
  | .slice elems spare => uptoBulkAll elems + uptoBulkAll spare + 1
  | .agg parts => uptoBulkAll parts + 1
  | .iface _ d => uptoBulk d + 1
  | .map entries => uptoBulkEntries entries + 1
  | .held _ => 1
def uptoBulkAll {H : Type} : List (DataW H) → Nat
  | [] => 0
  | d :: r => uptoBulk d + uptoBulkAll r
def uptoBulkEntries {H : Type} : List (Lit × DataW H) → Nat
  | [] => 0
  | x :: r => uptoBulkEntry x + uptoBulkEntries r
def uptoBulkEntry {H : Type} : Lit × DataW H → Nat
  | (.string bytes, d) => bytes.length + uptoBulk d + 1
  | (_, d) => uptoBulk d + 1
 end
def uptoSmall : (H : Type) → List (DataW H) → Bool := fun _ ds => decide (uptoBulkAll ds ≤ 1048576)
def OpenSpec.upto (s : _root_.Go.ChangeSpec) : _root_.Go.OpenSpec := { _root_.Go.OpenSpec.ofChange s with cond := some uptoSmall }

/-- 'tallystonelaw05.AllocateRunning', WHERE WHAT IT READS IS OF BULK AT MOST 1048576: true; the input reads as it did. -/
def allocateRunningUptoRow : OpenClaim := { program := "ytocojbkhdijjeaa", sum := "acd335d5e5062ef8041f398b9757fcb89ce13336117a6e0f537070157e6da778", func := "tallystone/tallystonelaw05.AllocateRunning", spec := "allocateRunning", unfollowed := true, recurses := true, apart := false, narrowed := true }
def AllocateRunningUptoSaid : Prop := allocateRunningUptoRow.holds Try.pinned (OpenSpec.upto allocateRunningSpec)

/-- 'tallystonelaw05.AllocateWhole', WHERE WHAT IT READS IS OF BULK AT MOST 1048576: true; the input reads as it did. -/
def allocateWholeUptoRow : OpenClaim := { program := "ytocojbkhdijjeaa", sum := "acd335d5e5062ef8041f398b9757fcb89ce13336117a6e0f537070157e6da778", func := "tallystone/tallystonelaw05.AllocateWhole", spec := "allocateWhole", unfollowed := true, recurses := true, apart := false, narrowed := true }
def AllocateWholeUptoSaid : Prop := allocateWholeUptoRow.holds Try.pinned (OpenSpec.upto allocateWholeSpec)

/-- 'tallystonelaw05.AllocateFirst', WHERE WHAT IT READS IS OF BULK AT MOST 1048576: true; the input reads as it did. -/
def allocateFirstUptoRow : OpenClaim := { program := "ytocojbkhdijjeaa", sum := "acd335d5e5062ef8041f398b9757fcb89ce13336117a6e0f537070157e6da778", func := "tallystone/tallystonelaw05.AllocateFirst", spec := "allocateFirst", unfollowed := true, recurses := true, apart := false, narrowed := true }
def AllocateFirstUptoSaid : Prop := allocateFirstUptoRow.holds Try.pinned (OpenSpec.upto allocateFirstSpec)

/-- 'tallystonelaw05.AllocateSplit', WHERE WHAT IT READS IS OF BULK AT MOST 1048576: true; the input reads as it did. -/
def allocateSplitUptoRow : OpenClaim := { program := "ytocojbkhdijjeaa", sum := "acd335d5e5062ef8041f398b9757fcb89ce13336117a6e0f537070157e6da778", func := "tallystone/tallystonelaw05.AllocateSplit", spec := "allocateSplit", unfollowed := true, recurses := true, apart := false, narrowed := true }
def AllocateSplitUptoSaid : Prop := allocateSplitUptoRow.holds Try.pinned (OpenSpec.upto allocateSplitSpec)

/-- 'tallystonelaw05.AllocateFair', WHERE WHAT IT READS IS OF BULK AT MOST 1048576: true; the input reads as it did. -/
def allocateFairUptoRow : OpenClaim := { program := "ytocojbkhdijjeaa", sum := "acd335d5e5062ef8041f398b9757fcb89ce13336117a6e0f537070157e6da778", func := "tallystone/tallystonelaw05.AllocateFair", spec := "allocateFair", unfollowed := true, recurses := true, apart := false, narrowed := true }
def AllocateFairUptoSaid : Prop := allocateFairUptoRow.holds Try.pinned (OpenSpec.upto allocateFairSpec)

/-- 'tallystonelaw05.AllocateOrder', WHERE WHAT IT READS IS OF BULK AT MOST 1048576: true; the input reads as it did. -/
def allocateOrderUptoRow : OpenClaim := { program := "ytocojbkhdijjeaa", sum := "acd335d5e5062ef8041f398b9757fcb89ce13336117a6e0f537070157e6da778", func := "tallystone/tallystonelaw05.AllocateOrder", spec := "allocateOrder", unfollowed := true, recurses := true, apart := false, narrowed := true }
def AllocateOrderUptoSaid : Prop := allocateOrderUptoRow.holds Try.pinned (OpenSpec.upto allocateOrderSpec)

/-- 'tallystonelaw05.AllocateScaled', WHERE WHAT IT READS IS OF BULK AT MOST 1048576: true; the input reads as it did. -/
def allocateScaledUptoRow : OpenClaim := { program := "ytocojbkhdijjeaa", sum := "acd335d5e5062ef8041f398b9757fcb89ce13336117a6e0f537070157e6da778", func := "tallystone/tallystonelaw05.AllocateScaled", spec := "allocateScaled", unfollowed := true, recurses := true, apart := false, narrowed := true }
def AllocateScaledUptoSaid : Prop := allocateScaledUptoRow.holds Try.pinned (OpenSpec.upto allocateScaledSpec)

/-- 'tallystonelaw05.AllocateEven', WHERE WHAT IT READS IS OF BULK AT MOST 1048576: true; the input reads as it did. -/
def allocateEvenUptoRow : OpenClaim := { program := "ytocojbkhdijjeaa", sum := "acd335d5e5062ef8041f398b9757fcb89ce13336117a6e0f537070157e6da778", func := "tallystone/tallystonelaw05.AllocateEven", spec := "allocateEven", unfollowed := true, recurses := true, apart := false, narrowed := true }
def AllocateEvenUptoSaid : Prop := allocateEvenUptoRow.holds Try.pinned (OpenSpec.upto allocateEvenSpec)

end Rows
end Go.Proofs.Ytocojbkhdijjeaa
