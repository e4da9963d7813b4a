/-
  No cell of these rows narrows 'for every input' (looked for: loops, veiled, ifaces, maps, wideKeys, modest, calm, conditions, laid).
  DERIVED. THE GIVEN ROWS OF THIS SEAT. 7 by the template 'for every input the law returns true; each argument reads behind the call as it read before'; 0 by the template 'total and deterministic' (their statements: YtlhdnmpklaohkaaTotals.lean).
  GIVEN WITH THE SEED: the statements are not yours to turn. If you find one false, say at which input.
  Laid BY PROGRAM, IN A SANDBOX (cutbox-rows.mjs): the forced cells as the released guide's own fill.sh prints them over the translation 555f7f5e873c0ffd… (all of the seat's roots in one cut). By AI agents, Wed Nov 11 2026. No macro, syntax, notation, axiom, sorry.
-/
import Derived.Test.YtlhdnmpklaohkaaChecked
import GoSem.Claim
import GoSem.ClaimJoined
import GoSem.ClaimMapViews
import Derived.JoinedTies
import Derived.KernelRfl
namespace Go.Proofs.Ytlhdnmpklaohkaa
/- THE CELL 'sum', in the pinned program and in every row, IS THE sha256 OF THE DUMP (.gsa) THAT YtlhdnmpklaohkaaProg.lean LOADS. Nothing in Lean hashes anything: it is a label: what it is worth is what the hold of that sum in a sandbox is worth. -/
noncomputable def Try.pinned : Pinned := { name := "ytlhdnmpklaohkaa", sum := "555f7f5e873c0ffd605e33b7e8261faeeb132131330e68796f71e660dc58ea4e", checked := Try.checked }
namespace Rows
def none {H : Type} : Left H := { results := [], args := [] }

/-- 'tallystonelaw08.ChartValid': WHATEVER THE INPUT: true; the input reads as it did. -/
def chartValidSpec : ChangeSpec := { name := "chartValid", fn := fun _ => fun
  | [d1, d2] => { results := [.lit (.bool true)], args := [d1, d2] }
  | _ => none }
def chartValidRow : OpenClaim := { program := "ytlhdnmpklaohkaa", sum := "555f7f5e873c0ffd605e33b7e8261faeeb132131330e68796f71e660dc58ea4e", func := "tallystone/tallystonelaw08.ChartValid", spec := "chartValid", unfollowed := true, recurses := true, apart := false }
def ChartValidSaid : Prop := chartValidRow.holds Try.pinned (OpenSpec.ofChange chartValidSpec)

/-- ITS FALSE NEIGHBOUR: 'it returns false'. Refute it at one input. -/
def chartValidWrong : ChangeSpec := { name := "chartValid", fn := fun _ => fun
  | [d1, d2] => { results := [.lit (.bool false)], args := [d1, d2] }
  | _ => none }
def ChartValidWrongFalsely : Prop := chartValidRow.holds Try.pinned (OpenSpec.ofChange chartValidWrong)

/-- 'tallystonelaw08.ChartFinds': WHATEVER THE INPUT: true; the input reads as it did. -/
def chartFindsSpec : ChangeSpec := { name := "chartFinds", fn := fun _ => fun
  | [d1, d2] => { results := [.lit (.bool true)], args := [d1, d2] }
  | _ => none }
def chartFindsRow : OpenClaim := { program := "ytlhdnmpklaohkaa", sum := "555f7f5e873c0ffd605e33b7e8261faeeb132131330e68796f71e660dc58ea4e", func := "tallystone/tallystonelaw08.ChartFinds", spec := "chartFinds", unfollowed := true, recurses := true, apart := false }
def ChartFindsSaid : Prop := chartFindsRow.holds Try.pinned (OpenSpec.ofChange chartFindsSpec)

/-- ITS FALSE NEIGHBOUR: 'it returns false'. Refute it at one input. -/
def chartFindsWrong : ChangeSpec := { name := "chartFinds", fn := fun _ => fun
  | [d1, d2] => { results := [.lit (.bool false)], args := [d1, d2] }
  | _ => none }
def ChartFindsWrongFalsely : Prop := chartFindsRow.holds Try.pinned (OpenSpec.ofChange chartFindsWrong)

/-- 'tallystonelaw08.ChartUnder': WHATEVER THE INPUT: true; the input reads as it did. -/
def chartUnderSpec : ChangeSpec := { name := "chartUnder", fn := fun _ => fun
  | [d1, d2] => { results := [.lit (.bool true)], args := [d1, d2] }
  | _ => none }
def chartUnderRow : OpenClaim := { program := "ytlhdnmpklaohkaa", sum := "555f7f5e873c0ffd605e33b7e8261faeeb132131330e68796f71e660dc58ea4e", func := "tallystone/tallystonelaw08.ChartUnder", spec := "chartUnder", unfollowed := true, recurses := true, apart := false }
def ChartUnderSaid : Prop := chartUnderRow.holds Try.pinned (OpenSpec.ofChange chartUnderSpec)

/-- ITS FALSE NEIGHBOUR: 'it returns false'. Refute it at one input. -/
def chartUnderWrong : ChangeSpec := { name := "chartUnder", fn := fun _ => fun
  | [d1, d2] => { results := [.lit (.bool false)], args := [d1, d2] }
  | _ => none }
def ChartUnderWrongFalsely : Prop := chartUnderRow.holds Try.pinned (OpenSpec.ofChange chartUnderWrong)

/-- 'tallystonelaw08.ChartRoll': WHATEVER THE INPUT: true; the input reads as it did. -/
def chartRollSpec : ChangeSpec := { name := "chartRoll", fn := fun _ => fun
  | [d1, d2] => { results := [.lit (.bool true)], args := [d1, d2] }
  | _ => none }
def chartRollRow : OpenClaim := { program := "ytlhdnmpklaohkaa", sum := "555f7f5e873c0ffd605e33b7e8261faeeb132131330e68796f71e660dc58ea4e", func := "tallystone/tallystonelaw08.ChartRoll", spec := "chartRoll", unfollowed := true, recurses := true, apart := false }
def ChartRollSaid : Prop := chartRollRow.holds Try.pinned (OpenSpec.ofChange chartRollSpec)

/-- ITS FALSE NEIGHBOUR: 'it returns false'. Refute it at one input. -/
def chartRollWrong : ChangeSpec := { name := "chartRoll", fn := fun _ => fun
  | [d1, d2] => { results := [.lit (.bool false)], args := [d1, d2] }
  | _ => none }
def ChartRollWrongFalsely : Prop := chartRollRow.holds Try.pinned (OpenSpec.ofChange chartRollWrong)

/-- 'tallystonelaw08.ChartTree': WHATEVER THE INPUT: true; the input reads as it did. -/
def chartTreeSpec : ChangeSpec := { name := "chartTree", fn := fun _ => fun
  | [d1, d2, d3] => { results := [.lit (.bool true)], args := [d1, d2, d3] }
  | _ => none }
def chartTreeRow : OpenClaim := { program := "ytlhdnmpklaohkaa", sum := "555f7f5e873c0ffd605e33b7e8261faeeb132131330e68796f71e660dc58ea4e", func := "tallystone/tallystonelaw08.ChartTree", spec := "chartTree", unfollowed := true, recurses := true, apart := false }
def ChartTreeSaid : Prop := chartTreeRow.holds Try.pinned (OpenSpec.ofChange chartTreeSpec)

/-- ITS FALSE NEIGHBOUR: 'it returns false'. Refute it at one input. -/
def chartTreeWrong : ChangeSpec := { name := "chartTree", fn := fun _ => fun
  | [d1, d2, d3] => { results := [.lit (.bool false)], args := [d1, d2, d3] }
  | _ => none }
def ChartTreeWrongFalsely : Prop := chartTreeRow.holds Try.pinned (OpenSpec.ofChange chartTreeWrong)

/-- 'tallystonelaw08.ChartSums': WHATEVER THE INPUT: true; the input reads as it did. -/
def chartSumsSpec : ChangeSpec := { name := "chartSums", fn := fun _ => fun
  | [d1, d2] => { results := [.lit (.bool true)], args := [d1, d2] }
  | _ => none }
def chartSumsRow : OpenClaim := { program := "ytlhdnmpklaohkaa", sum := "555f7f5e873c0ffd605e33b7e8261faeeb132131330e68796f71e660dc58ea4e", func := "tallystone/tallystonelaw08.ChartSums", spec := "chartSums", unfollowed := true, recurses := true, apart := false }
def ChartSumsSaid : Prop := chartSumsRow.holds Try.pinned (OpenSpec.ofChange chartSumsSpec)

/-- ITS FALSE NEIGHBOUR: 'it returns false'. Refute it at one input. -/
def chartSumsWrong : ChangeSpec := { name := "chartSums", fn := fun _ => fun
  | [d1, d2] => { results := [.lit (.bool false)], args := [d1, d2] }
  | _ => none }
def ChartSumsWrongFalsely : Prop := chartSumsRow.holds Try.pinned (OpenSpec.ofChange chartSumsWrong)

/-- 'tallystonelaw08.ChartAdds': WHATEVER THE INPUT: true; the input reads as it did. -/
def chartAddsSpec : ChangeSpec := { name := "chartAdds", fn := fun _ => fun
  | [d1, d2, d3] => { results := [.lit (.bool true)], args := [d1, d2, d3] }
  | _ => none }
def chartAddsRow : OpenClaim := { program := "ytlhdnmpklaohkaa", sum := "555f7f5e873c0ffd605e33b7e8261faeeb132131330e68796f71e660dc58ea4e", func := "tallystone/tallystonelaw08.ChartAdds", spec := "chartAdds", unfollowed := true, recurses := true, apart := false }
def ChartAddsSaid : Prop := chartAddsRow.holds Try.pinned (OpenSpec.ofChange chartAddsSpec)

/-- ITS FALSE NEIGHBOUR: 'it returns false'. Refute it at one input. -/
def chartAddsWrong : ChangeSpec := { name := "chartAdds", fn := fun _ => fun
  | [d1, d2, d3] => { results := [.lit (.bool false)], args := [d1, d2, d3] }
  | _ => none }
def ChartAddsWrongFalsely : Prop := chartAddsRow.holds Try.pinned (OpenSpec.ofChange chartAddsWrong)

/- THE SECOND FORM. 'bulk': how many values and letters a reading holds, each counted each time it is reached (what is shared counts as often as it is met; a slice's spare places count too). A statement '..UptoSaid' is the law's where the arguments, and the package variables that the reading takes, are together of bulk at most 1048576: NARROWER than '..Said'. Prove '..Said' where nothing that the law and all that it calls make is longer than what came in: it says more and counts as full. Else prove '..UptoSaid'. A law counts once. -/
mutual
def uptoBulk {H : Type} : DataW H → Nat
  | .lit (.string bytes) => bytes.length + 1
  | .lit _ => 1
  | .nil => 1
  | .ptr d => uptoBulk d + 1
  | .slice elems spare => uptoBulkAll elems + uptoBulkAll spare + 1
  | .agg parts => uptoBulkAll parts + 1
  | .iface _ d => uptoBulk d + 1
  | .map entries => uptoBulkEntries entries + 1
  | .held _ => 1
def uptoBulkAll {H : Type} : List (DataW H) → Nat
  | [] => 0
  | d :: r => uptoBulk d + uptoBulkAll r
def uptoBulkEntries {H : Type} : List (Lit × DataW H) → Nat
  | [] => 0
  | x :: r => uptoBulkEntry x + uptoBulkEntries r
def uptoBulkEntry {H : Type} : Lit × DataW H → Nat
  | (.string bytes, d) => bytes.length + uptoBulk d + 1
  | (_, d) => uptoBulk d + 1
 end
def uptoSmall : (H : Type) → List (DataW H) → Bool := fun _ ds => decide (uptoBulkAll ds ≤ 1048576)
def OpenSpec.upto (s : _root_.Go.ChangeSpec) : _root_.Go.OpenSpec := { _root_.Go.OpenSpec.ofChange s with cond := some uptoSmall }

/-- 'tallystonelaw08.ChartValid', WHERE WHAT IT READS IS OF BULK AT MOST 1048576: true; the input reads as it did. -/
def chartValidUptoRow : OpenClaim := { program := "ytlhdnmpklaohkaa", sum := "555f7f5e873c0ffd605e33b7e8261faeeb132131330e68796f71e660dc58ea4e", func := "tallystone/tallystonelaw08.ChartValid", spec := "chartValid", unfollowed := true, recurses := true, apart := false, narrowed := true }
def ChartValidUptoSaid : Prop := chartValidUptoRow.holds Try.pinned (OpenSpec.upto chartValidSpec)

/-- 'tallystonelaw08.ChartFinds', WHERE WHAT IT READS IS OF BULK AT MOST 1048576: true; the input reads as it did. -/
def chartFindsUptoRow : OpenClaim := { program := "ytlhdnmpklaohkaa", sum := "555f7f5e873c0ffd605e33b7e8261faeeb132131330e68796f71e660dc58ea4e", func := "tallystone/tallystonelaw08.ChartFinds", spec := "chartFinds", unfollowed := true, recurses := true, apart := false, narrowed := true }
def ChartFindsUptoSaid : Prop := chartFindsUptoRow.holds Try.pinned (OpenSpec.upto chartFindsSpec)

/-- 'tallystonelaw08.ChartUnder', WHERE WHAT IT READS IS OF BULK AT MOST 1048576: true; the input reads as it did. -/
def chartUnderUptoRow : OpenClaim := { program := "ytlhdnmpklaohkaa", sum := "555f7f5e873c0ffd605e33b7e8261faeeb132131330e68796f71e660dc58ea4e", func := "tallystone/tallystonelaw08.ChartUnder", spec := "chartUnder", unfollowed := true, recurses := true, apart := false, narrowed := true }
def ChartUnderUptoSaid : Prop := chartUnderUptoRow.holds Try.pinned (OpenSpec.upto chartUnderSpec)

/-- 'tallystonelaw08.ChartRoll', WHERE WHAT IT READS IS OF BULK AT MOST 1048576: true; the input reads as it did. -/
def chartRollUptoRow : OpenClaim := { program := "ytlhdnmpklaohkaa", sum := "555f7f5e873c0ffd605e33b7e8261faeeb132131330e68796f71e660dc58ea4e", func := "tallystone/tallystonelaw08.ChartRoll", spec := "chartRoll", unfollowed := true, recurses := true, apart := false, narrowed := true }
def ChartRollUptoSaid : Prop := chartRollUptoRow.holds Try.pinned (OpenSpec.upto chartRollSpec)

/-- 'tallystonelaw08.ChartTree', WHERE WHAT IT READS IS OF BULK AT MOST 1048576: true; the input reads as it did. -/
def chartTreeUptoRow : OpenClaim := { program := "ytlhdnmpklaohkaa", sum := "555f7f5e873c0ffd605e33b7e8261faeeb132131330e68796f71e660dc58ea4e", func := "tallystone/tallystonelaw08.ChartTree", spec := "chartTree", unfollowed := true, recurses := true, apart := false, narrowed := true }
def ChartTreeUptoSaid : Prop := chartTreeUptoRow.holds Try.pinned (OpenSpec.upto chartTreeSpec)

/-- 'tallystonelaw08.ChartSums', WHERE WHAT IT READS IS OF BULK AT MOST 1048576: true; the input reads as it did. -/
def chartSumsUptoRow : OpenClaim := { program := "ytlhdnmpklaohkaa", sum := "555f7f5e873c0ffd605e33b7e8261faeeb132131330e68796f71e660dc58ea4e", func := "tallystone/tallystonelaw08.ChartSums", spec := "chartSums", unfollowed := true, recurses := true, apart := false, narrowed := true }
def ChartSumsUptoSaid : Prop := chartSumsUptoRow.holds Try.pinned (OpenSpec.upto chartSumsSpec)

/-- 'tallystonelaw08.ChartAdds', WHERE WHAT IT READS IS OF BULK AT MOST 1048576: true; the input reads as it did. -/
def chartAddsUptoRow : OpenClaim := { program := "ytlhdnmpklaohkaa", sum := "555f7f5e873c0ffd605e33b7e8261faeeb132131330e68796f71e660dc58ea4e", func := "tallystone/tallystonelaw08.ChartAdds", spec := "chartAdds", unfollowed := true, recurses := true, apart := false, narrowed := true }
def ChartAddsUptoSaid : Prop := chartAddsUptoRow.holds Try.pinned (OpenSpec.upto chartAddsSpec)

end Rows
end Go.Proofs.Ytlhdnmpklaohkaa
