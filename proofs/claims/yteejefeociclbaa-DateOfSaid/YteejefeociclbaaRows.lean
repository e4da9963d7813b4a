/-
  No cell of these rows narrows 'for every input' (looked for: loops, veiled, ifaces, maps, wideKeys, modest, calm, conditions, laid).
  DERIVED. THE GIVEN ROWS OF THIS SEAT. 8 by the template 'for every input the law returns true; each argument reads behind the call as it read before'; 0 by the template 'total and deterministic' (their statements: YteejefeociclbaaTotals.lean).
  GIVEN WITH THE SEED: the statements are not yours to turn. If you find one false, say at which input.
  Laid BY PROGRAM, IN A SANDBOX (cutbox-rows.mjs): the forced cells as the released guide's own fill.sh prints them over the translation af5cfcfa589fb63a… (all of the seat's roots in one cut). By AI agents, Wed Nov 11 2026. No macro, syntax, notation, axiom, sorry.
-/
import Derived.Test.YteejefeociclbaaChecked
import GoSem.Claim
import GoSem.ClaimJoined
import GoSem.ClaimMapViews
import Derived.JoinedTies
import Derived.KernelRfl
namespace Go.Proofs.Yteejefeociclbaa
/- THE CELL 'sum', in the pinned program and in every row, IS THE sha256 OF THE DUMP (.gsa) THAT YteejefeociclbaaProg.lean LOADS. Nothing in Lean hashes anything: it is a label: what it is worth is what the hold of that sum in a sandbox is worth. -/
noncomputable def Try.pinned : Pinned := { name := "yteejefeociclbaa", sum := "af5cfcfa589fb63a370718ec80f9b741e092a1d7b5da4792305de76652e84ddb", checked := Try.checked }
namespace Rows
def none {H : Type} : Left H := { results := [], args := [] }

/-- 'tallystonelaw06.DateOf': WHATEVER THE INPUT: true; the input reads as it did. -/
def dateOfSpec : ChangeSpec := { name := "dateOf", fn := fun _ => fun
  | [d1, d2, d3] => { results := [.lit (.bool true)], args := [d1, d2, d3] }
  | _ => none }
def dateOfRow : OpenClaim := { program := "yteejefeociclbaa", sum := "af5cfcfa589fb63a370718ec80f9b741e092a1d7b5da4792305de76652e84ddb", func := "tallystone/tallystonelaw06.DateOf", spec := "dateOf", apart := false }
def DateOfSaid : Prop := dateOfRow.holds Try.pinned (OpenSpec.ofChange dateOfSpec)

/-- ITS FALSE NEIGHBOUR: 'it returns false'. Refute it at one input. -/
def dateOfWrong : ChangeSpec := { name := "dateOf", fn := fun _ => fun
  | [d1, d2, d3] => { results := [.lit (.bool false)], args := [d1, d2, d3] }
  | _ => none }
def DateOfWrongFalsely : Prop := dateOfRow.holds Try.pinned (OpenSpec.ofChange dateOfWrong)

/-- 'tallystonelaw06.DateCivil': WHATEVER THE INPUT: true; the input reads as it did. -/
def dateCivilSpec : ChangeSpec := { name := "dateCivil", fn := fun _ => fun
  | [d] => { results := [.lit (.bool true)], args := [d] }
  | _ => none }
def dateCivilRow : OpenClaim := { program := "yteejefeociclbaa", sum := "af5cfcfa589fb63a370718ec80f9b741e092a1d7b5da4792305de76652e84ddb", func := "tallystone/tallystonelaw06.DateCivil", spec := "dateCivil", apart := false }
def DateCivilSaid : Prop := dateCivilRow.holds Try.pinned (OpenSpec.ofChange dateCivilSpec)

/-- ITS FALSE NEIGHBOUR: 'it returns false'. Refute it at one input. -/
def dateCivilWrong : ChangeSpec := { name := "dateCivil", fn := fun _ => fun
  | [d] => { results := [.lit (.bool false)], args := [d] }
  | _ => none }
def DateCivilWrongFalsely : Prop := dateCivilRow.holds Try.pinned (OpenSpec.ofChange dateCivilWrong)

/-- 'tallystonelaw06.DateText': WHATEVER THE INPUT: true; the input reads as it did. -/
def dateTextSpec : ChangeSpec := { name := "dateText", fn := fun _ => fun
  | [d] => { results := [.lit (.bool true)], args := [d] }
  | _ => none }
def dateTextRow : OpenClaim := { program := "yteejefeociclbaa", sum := "af5cfcfa589fb63a370718ec80f9b741e092a1d7b5da4792305de76652e84ddb", func := "tallystone/tallystonelaw06.DateText", spec := "dateText", recurses := true, apart := false }
def DateTextSaid : Prop := dateTextRow.holds Try.pinned (OpenSpec.ofChange dateTextSpec)

/-- ITS FALSE NEIGHBOUR: 'it returns false'. Refute it at one input. -/
def dateTextWrong : ChangeSpec := { name := "dateText", fn := fun _ => fun
  | [d] => { results := [.lit (.bool false)], args := [d] }
  | _ => none }
def DateTextWrongFalsely : Prop := dateTextRow.holds Try.pinned (OpenSpec.ofChange dateTextWrong)

/-- 'tallystonelaw06.DateParse': WHATEVER THE INPUT: true; the input reads as it did. -/
def dateParseSpec : ChangeSpec := { name := "dateParse", fn := fun _ => fun
  | [d] => { results := [.lit (.bool true)], args := [d] }
  | _ => none }
def dateParseRow : OpenClaim := { program := "yteejefeociclbaa", sum := "af5cfcfa589fb63a370718ec80f9b741e092a1d7b5da4792305de76652e84ddb", func := "tallystone/tallystonelaw06.DateParse", spec := "dateParse", apart := false }
def DateParseSaid : Prop := dateParseRow.holds Try.pinned (OpenSpec.ofChange dateParseSpec)

/-- ITS FALSE NEIGHBOUR: 'it returns false'. Refute it at one input. -/
def dateParseWrong : ChangeSpec := { name := "dateParse", fn := fun _ => fun
  | [d] => { results := [.lit (.bool false)], args := [d] }
  | _ => none }
def DateParseWrongFalsely : Prop := dateParseRow.holds Try.pinned (OpenSpec.ofChange dateParseWrong)

/-- 'tallystonelaw06.DateNext': WHATEVER THE INPUT: true; the input reads as it did. -/
def dateNextSpec : ChangeSpec := { name := "dateNext", fn := fun _ => fun
  | [d] => { results := [.lit (.bool true)], args := [d] }
  | _ => none }
def dateNextRow : OpenClaim := { program := "yteejefeociclbaa", sum := "af5cfcfa589fb63a370718ec80f9b741e092a1d7b5da4792305de76652e84ddb", func := "tallystone/tallystonelaw06.DateNext", spec := "dateNext", apart := false }
def DateNextSaid : Prop := dateNextRow.holds Try.pinned (OpenSpec.ofChange dateNextSpec)

/-- ITS FALSE NEIGHBOUR: 'it returns false'. Refute it at one input. -/
def dateNextWrong : ChangeSpec := { name := "dateNext", fn := fun _ => fun
  | [d] => { results := [.lit (.bool false)], args := [d] }
  | _ => none }
def DateNextWrongFalsely : Prop := dateNextRow.holds Try.pinned (OpenSpec.ofChange dateNextWrong)

/-- 'tallystonelaw06.DateOrder': WHATEVER THE INPUT: true; the input reads as it did. -/
def dateOrderSpec : ChangeSpec := { name := "dateOrder", fn := fun _ => fun
  | [d1, d2] => { results := [.lit (.bool true)], args := [d1, d2] }
  | _ => none }
def dateOrderRow : OpenClaim := { program := "yteejefeociclbaa", sum := "af5cfcfa589fb63a370718ec80f9b741e092a1d7b5da4792305de76652e84ddb", func := "tallystone/tallystonelaw06.DateOrder", spec := "dateOrder", apart := false }
def DateOrderSaid : Prop := dateOrderRow.holds Try.pinned (OpenSpec.ofChange dateOrderSpec)

/-- ITS FALSE NEIGHBOUR: 'it returns false'. Refute it at one input. -/
def dateOrderWrong : ChangeSpec := { name := "dateOrder", fn := fun _ => fun
  | [d1, d2] => { results := [.lit (.bool false)], args := [d1, d2] }
  | _ => none }
def DateOrderWrongFalsely : Prop := dateOrderRow.holds Try.pinned (OpenSpec.ofChange dateOrderWrong)

/-- 'tallystonelaw06.DateAdd': WHATEVER THE INPUT: true; the input reads as it did. -/
def dateAddSpec : ChangeSpec := { name := "dateAdd", fn := fun _ => fun
  | [d1, d2] => { results := [.lit (.bool true)], args := [d1, d2] }
  | _ => none }
def dateAddRow : OpenClaim := { program := "yteejefeociclbaa", sum := "af5cfcfa589fb63a370718ec80f9b741e092a1d7b5da4792305de76652e84ddb", func := "tallystone/tallystonelaw06.DateAdd", spec := "dateAdd", apart := false }
def DateAddSaid : Prop := dateAddRow.holds Try.pinned (OpenSpec.ofChange dateAddSpec)

/-- ITS FALSE NEIGHBOUR: 'it returns false'. Refute it at one input. -/
def dateAddWrong : ChangeSpec := { name := "dateAdd", fn := fun _ => fun
  | [d1, d2] => { results := [.lit (.bool false)], args := [d1, d2] }
  | _ => none }
def DateAddWrongFalsely : Prop := dateAddRow.holds Try.pinned (OpenSpec.ofChange dateAddWrong)

/-- 'tallystonelaw06.DateMonths': WHATEVER THE INPUT: true; the input reads as it did. -/
def dateMonthsSpec : ChangeSpec := { name := "dateMonths", fn := fun _ => fun
  | [d1, d2, d3] => { results := [.lit (.bool true)], args := [d1, d2, d3] }
  | _ => none }
def dateMonthsRow : OpenClaim := { program := "yteejefeociclbaa", sum := "af5cfcfa589fb63a370718ec80f9b741e092a1d7b5da4792305de76652e84ddb", func := "tallystone/tallystonelaw06.DateMonths", spec := "dateMonths", apart := false }
def DateMonthsSaid : Prop := dateMonthsRow.holds Try.pinned (OpenSpec.ofChange dateMonthsSpec)

/-- ITS FALSE NEIGHBOUR: 'it returns false'. Refute it at one input. -/
def dateMonthsWrong : ChangeSpec := { name := "dateMonths", fn := fun _ => fun
  | [d1, d2, d3] => { results := [.lit (.bool false)], args := [d1, d2, d3] }
  | _ => none }
def DateMonthsWrongFalsely : Prop := dateMonthsRow.holds Try.pinned (OpenSpec.ofChange dateMonthsWrong)

/- THE SECOND FORM. 'bulk': how many values and letters a reading holds, each counted each time it is reached (what is shared counts as often as it is met; a slice's spare places count too). A statement '..UptoSaid' is the law's where the arguments, and the package variables that the reading takes, are together of bulk at most 1048576: NARROWER than '..Said'. Prove '..Said' where nothing that the law and all that it calls make is longer than what came in: it says more and counts as full. Else prove '..UptoSaid'. A law counts once. -/
mutual
def uptoBulk {H : Type} : DataW H → Nat
  | .lit (.string bytes) => bytes.length + 1
  | .lit _ => 1
  | .nil => 1
  | .ptr d => uptoBulk d + 1
  | .slice elems spare => uptoBulkAll elems + uptoBulkAll spare + 1
  | .agg parts => uptoBulkAll parts + 1
  | .iface _ d => uptoBulk d + 1
  | .map entries => uptoBulkEntries entries + 1
  | .held _ => 1
def uptoBulkAll {H : Type} : List (DataW H) → Nat
  | [] => 0
  | d :: r => uptoBulk d + uptoBulkAll r
def uptoBulkEntries {H : Type} : List (Lit × DataW H) → Nat
  | [] => 0
  | x :: r => uptoBulkEntry x + uptoBulkEntries r
def uptoBulkEntry {H : Type} : Lit × DataW H → Nat
  | (.string bytes, d) => bytes.length + uptoBulk d + 1
  | (_, d) => uptoBulk d + 1
 end
def uptoSmall : (H : Type) → List (DataW H) → Bool := fun _ ds => decide (uptoBulkAll ds ≤ 1048576)
def OpenSpec.upto (s : _root_.Go.ChangeSpec) : _root_.Go.OpenSpec := { _root_.Go.OpenSpec.ofChange s with cond := some uptoSmall }

/-- 'tallystonelaw06.DateOf', WHERE WHAT IT READS IS OF BULK AT MOST 1048576: true; the input reads as it did. -/
def dateOfUptoRow : OpenClaim := { program := "yteejefeociclbaa", sum := "af5cfcfa589fb63a370718ec80f9b741e092a1d7b5da4792305de76652e84ddb", func := "tallystone/tallystonelaw06.DateOf", spec := "dateOf", apart := false, narrowed := true }
def DateOfUptoSaid : Prop := dateOfUptoRow.holds Try.pinned (OpenSpec.upto dateOfSpec)

/-- 'tallystonelaw06.DateCivil', WHERE WHAT IT READS IS OF BULK AT MOST 1048576: true; the input reads as it did. -/
def dateCivilUptoRow : OpenClaim := { program := "yteejefeociclbaa", sum := "af5cfcfa589fb63a370718ec80f9b741e092a1d7b5da4792305de76652e84ddb", func := "tallystone/tallystonelaw06.DateCivil", spec := "dateCivil", apart := false, narrowed := true }
def DateCivilUptoSaid : Prop := dateCivilUptoRow.holds Try.pinned (OpenSpec.upto dateCivilSpec)

/-- 'tallystonelaw06.DateText', WHERE WHAT IT READS IS OF BULK AT MOST 1048576: true; the input reads as it did. -/
def dateTextUptoRow : OpenClaim := { program := "yteejefeociclbaa", sum := "af5cfcfa589fb63a370718ec80f9b741e092a1d7b5da4792305de76652e84ddb", func := "tallystone/tallystonelaw06.DateText", spec := "dateText", recurses := true, apart := false, narrowed := true }
def DateTextUptoSaid : Prop := dateTextUptoRow.holds Try.pinned (OpenSpec.upto dateTextSpec)

/-- 'tallystonelaw06.DateParse', WHERE WHAT IT READS IS OF BULK AT MOST 1048576: true; the input reads as it did. -/
def dateParseUptoRow : OpenClaim := { program := "yteejefeociclbaa", sum := "af5cfcfa589fb63a370718ec80f9b741e092a1d7b5da4792305de76652e84ddb", func := "tallystone/tallystonelaw06.DateParse", spec := "dateParse", apart := false, narrowed := true }
def DateParseUptoSaid : Prop := dateParseUptoRow.holds Try.pinned (OpenSpec.upto dateParseSpec)

/-- 'tallystonelaw06.DateNext', WHERE WHAT IT READS IS OF BULK AT MOST 1048576: true; the input reads as it did. -/
def dateNextUptoRow : OpenClaim := { program := "yteejefeociclbaa", sum := "af5cfcfa589fb63a370718ec80f9b741e092a1d7b5da4792305de76652e84ddb", func := "tallystone/tallystonelaw06.DateNext", spec := "dateNext", apart := false, narrowed := true }
def DateNextUptoSaid : Prop := dateNextUptoRow.holds Try.pinned (OpenSpec.upto dateNextSpec)

/-- 'tallystonelaw06.DateOrder', WHERE WHAT IT READS IS OF BULK AT MOST 1048576: true; the input reads as it did. -/
def dateOrderUptoRow : OpenClaim := { program := "yteejefeociclbaa", sum := "af5cfcfa589fb63a370718ec80f9b741e092a1d7b5da4792305de76652e84ddb", func := "tallystone/tallystonelaw06.DateOrder", spec := "dateOrder", apart := false, narrowed := true }
def DateOrderUptoSaid : Prop := dateOrderUptoRow.holds Try.pinned (OpenSpec.upto dateOrderSpec)

/-- 'tallystonelaw06.DateAdd', WHERE WHAT IT READS IS OF BULK AT MOST 1048576: true; the input reads as it did. -/
def dateAddUptoRow : OpenClaim := { program := "yteejefeociclbaa", sum := "af5cfcfa589fb63a370718ec80f9b741e092a1d7b5da4792305de76652e84ddb", func := "tallystone/tallystonelaw06.DateAdd", spec := "dateAdd", apart := false, narrowed := true }
def DateAddUptoSaid : Prop := dateAddUptoRow.holds Try.pinned (OpenSpec.upto dateAddSpec)

/-- 'tallystonelaw06.DateMonths', WHERE WHAT IT READS IS OF BULK AT MOST 1048576: true; the input reads as it did. -/
def dateMonthsUptoRow : OpenClaim := { program := "yteejefeociclbaa", sum := "af5cfcfa589fb63a370718ec80f9b741e092a1d7b5da4792305de76652e84ddb", func := "tallystone/tallystonelaw06.DateMonths", spec := "dateMonths", apart := false, narrowed := true }
def DateMonthsUptoSaid : Prop := dateMonthsUptoRow.holds Try.pinned (OpenSpec.upto dateMonthsSpec)

end Rows
end Go.Proofs.Yteejefeociclbaa
