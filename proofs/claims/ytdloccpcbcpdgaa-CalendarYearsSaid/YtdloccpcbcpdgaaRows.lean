/-
  No cell of these rows narrows 'for every input' (looked for: loops, veiled, ifaces, maps, wideKeys, modest, calm, conditions, laid).
  DERIVED. THE GIVEN ROWS OF THIS SEAT. 7 by the template 'for every input the law returns true; each argument reads behind the call as it read before'; 0 by the template 'total and deterministic' (their statements: YtdloccpcbcpdgaaTotals.lean).
  GIVEN WITH THE SEED: the statements are not yours to turn. If you find one false, say at which input.
  Laid BY PROGRAM, IN A SANDBOX (cutbox-rows.mjs): the forced cells as the released guide's own fill.sh prints them over the translation 9ad79874cfe43357… (all of the seat's roots in one cut). By AI agents, Wed Nov 11 2026. No macro, syntax, notation, axiom, sorry.
-/
import Derived.Test.YtdloccpcbcpdgaaChecked
import GoSem.Claim
import GoSem.ClaimJoined
import GoSem.ClaimMapViews
import Derived.JoinedTies
import Derived.KernelRfl
namespace Go.Proofs.Ytdloccpcbcpdgaa
/- THE CELL 'sum', in the pinned program and in every row, IS THE sha256 OF THE DUMP (.gsa) THAT YtdloccpcbcpdgaaProg.lean LOADS. Nothing in Lean hashes anything: it is a label: what it is worth is what the hold of that sum in a sandbox is worth. -/
noncomputable def Try.pinned : Pinned := { name := "ytdloccpcbcpdgaa", sum := "9ad79874cfe433579db7145f3b24b10dbf918f1caf6d4d395202cdf5138c604f", checked := Try.checked }
namespace Rows
def none {H : Type} : Left H := { results := [], args := [] }

/-- 'tallystonelaw07.CalendarValid': WHATEVER THE INPUT: true; the input reads as it did. -/
def calendarValidSpec : ChangeSpec := { name := "calendarValid", fn := fun _ => fun
  | [d1, d2] => { results := [.lit (.bool true)], args := [d1, d2] }
  | _ => none }
def calendarValidRow : OpenClaim := { program := "ytdloccpcbcpdgaa", sum := "9ad79874cfe433579db7145f3b24b10dbf918f1caf6d4d395202cdf5138c604f", func := "tallystone/tallystonelaw07.CalendarValid", spec := "calendarValid", recurses := true, apart := false }
def CalendarValidSaid : Prop := calendarValidRow.holds Try.pinned (OpenSpec.ofChange calendarValidSpec)

/-- ITS FALSE NEIGHBOUR: 'it returns false'. Refute it at one input. -/
def calendarValidWrong : ChangeSpec := { name := "calendarValid", fn := fun _ => fun
  | [d1, d2] => { results := [.lit (.bool false)], args := [d1, d2] }
  | _ => none }
def CalendarValidWrongFalsely : Prop := calendarValidRow.holds Try.pinned (OpenSpec.ofChange calendarValidWrong)

/-- 'tallystonelaw07.CalendarDays': WHATEVER THE INPUT: true; the input reads as it did. -/
def calendarDaysSpec : ChangeSpec := { name := "calendarDays", fn := fun _ => fun
  | [d1, d2] => { results := [.lit (.bool true)], args := [d1, d2] }
  | _ => none }
def calendarDaysRow : OpenClaim := { program := "ytdloccpcbcpdgaa", sum := "9ad79874cfe433579db7145f3b24b10dbf918f1caf6d4d395202cdf5138c604f", func := "tallystone/tallystonelaw07.CalendarDays", spec := "calendarDays", apart := false }
def CalendarDaysSaid : Prop := calendarDaysRow.holds Try.pinned (OpenSpec.ofChange calendarDaysSpec)

/-- ITS FALSE NEIGHBOUR: 'it returns false'. Refute it at one input. -/
def calendarDaysWrong : ChangeSpec := { name := "calendarDays", fn := fun _ => fun
  | [d1, d2] => { results := [.lit (.bool false)], args := [d1, d2] }
  | _ => none }
def CalendarDaysWrongFalsely : Prop := calendarDaysRow.holds Try.pinned (OpenSpec.ofChange calendarDaysWrong)

/-- 'tallystonelaw07.CalendarPeriod': WHATEVER THE INPUT: true; the input reads as it did. -/
def calendarPeriodSpec : ChangeSpec := { name := "calendarPeriod", fn := fun _ => fun
  | [d1, d2] => { results := [.lit (.bool true)], args := [d1, d2] }
  | _ => none }
def calendarPeriodRow : OpenClaim := { program := "ytdloccpcbcpdgaa", sum := "9ad79874cfe433579db7145f3b24b10dbf918f1caf6d4d395202cdf5138c604f", func := "tallystone/tallystonelaw07.CalendarPeriod", spec := "calendarPeriod", apart := false }
def CalendarPeriodSaid : Prop := calendarPeriodRow.holds Try.pinned (OpenSpec.ofChange calendarPeriodSpec)

/-- ITS FALSE NEIGHBOUR: 'it returns false'. Refute it at one input. -/
def calendarPeriodWrong : ChangeSpec := { name := "calendarPeriod", fn := fun _ => fun
  | [d1, d2] => { results := [.lit (.bool false)], args := [d1, d2] }
  | _ => none }
def CalendarPeriodWrongFalsely : Prop := calendarPeriodRow.holds Try.pinned (OpenSpec.ofChange calendarPeriodWrong)

/-- 'tallystonelaw07.CalendarYears': WHATEVER THE INPUT: true; the input reads as it did. -/
def calendarYearsSpec : ChangeSpec := { name := "calendarYears", fn := fun _ => fun
  | [d1, d2] => { results := [.lit (.bool true)], args := [d1, d2] }
  | _ => none }
def calendarYearsRow : OpenClaim := { program := "ytdloccpcbcpdgaa", sum := "9ad79874cfe433579db7145f3b24b10dbf918f1caf6d4d395202cdf5138c604f", func := "tallystone/tallystonelaw07.CalendarYears", spec := "calendarYears", apart := false }
def CalendarYearsSaid : Prop := calendarYearsRow.holds Try.pinned (OpenSpec.ofChange calendarYearsSpec)

/-- ITS FALSE NEIGHBOUR: 'it returns false'. Refute it at one input. -/
def calendarYearsWrong : ChangeSpec := { name := "calendarYears", fn := fun _ => fun
  | [d1, d2] => { results := [.lit (.bool false)], args := [d1, d2] }
  | _ => none }
def CalendarYearsWrongFalsely : Prop := calendarYearsRow.holds Try.pinned (OpenSpec.ofChange calendarYearsWrong)

/-- 'tallystonelaw07.CalendarTiles': WHATEVER THE INPUT: true; the input reads as it did. -/
def calendarTilesSpec : ChangeSpec := { name := "calendarTiles", fn := fun _ => fun
  | [d1, d2] => { results := [.lit (.bool true)], args := [d1, d2] }
  | _ => none }
def calendarTilesRow : OpenClaim := { program := "ytdloccpcbcpdgaa", sum := "9ad79874cfe433579db7145f3b24b10dbf918f1caf6d4d395202cdf5138c604f", func := "tallystone/tallystonelaw07.CalendarTiles", spec := "calendarTiles", apart := false }
def CalendarTilesSaid : Prop := calendarTilesRow.holds Try.pinned (OpenSpec.ofChange calendarTilesSpec)

/-- ITS FALSE NEIGHBOUR: 'it returns false'. Refute it at one input. -/
def calendarTilesWrong : ChangeSpec := { name := "calendarTiles", fn := fun _ => fun
  | [d1, d2] => { results := [.lit (.bool false)], args := [d1, d2] }
  | _ => none }
def CalendarTilesWrongFalsely : Prop := calendarTilesRow.holds Try.pinned (OpenSpec.ofChange calendarTilesWrong)

/-- 'tallystonelaw07.CalendarBegins': WHATEVER THE INPUT: true; the input reads as it did. -/
def calendarBeginsSpec : ChangeSpec := { name := "calendarBegins", fn := fun _ => fun
  | [d1, d2, d3] => { results := [.lit (.bool true)], args := [d1, d2, d3] }
  | _ => none }
def calendarBeginsRow : OpenClaim := { program := "ytdloccpcbcpdgaa", sum := "9ad79874cfe433579db7145f3b24b10dbf918f1caf6d4d395202cdf5138c604f", func := "tallystone/tallystonelaw07.CalendarBegins", spec := "calendarBegins", apart := false }
def CalendarBeginsSaid : Prop := calendarBeginsRow.holds Try.pinned (OpenSpec.ofChange calendarBeginsSpec)

/-- ITS FALSE NEIGHBOUR: 'it returns false'. Refute it at one input. -/
def calendarBeginsWrong : ChangeSpec := { name := "calendarBegins", fn := fun _ => fun
  | [d1, d2, d3] => { results := [.lit (.bool false)], args := [d1, d2, d3] }
  | _ => none }
def CalendarBeginsWrongFalsely : Prop := calendarBeginsRow.holds Try.pinned (OpenSpec.ofChange calendarBeginsWrong)

/-- 'tallystonelaw07.CalendarParts': WHATEVER THE INPUT: true; the input reads as it did. -/
def calendarPartsSpec : ChangeSpec := { name := "calendarParts", fn := fun _ => fun
  | [d1, d2, d3] => { results := [.lit (.bool true)], args := [d1, d2, d3] }
  | _ => none }
def calendarPartsRow : OpenClaim := { program := "ytdloccpcbcpdgaa", sum := "9ad79874cfe433579db7145f3b24b10dbf918f1caf6d4d395202cdf5138c604f", func := "tallystone/tallystonelaw07.CalendarParts", spec := "calendarParts", apart := false }
def CalendarPartsSaid : Prop := calendarPartsRow.holds Try.pinned (OpenSpec.ofChange calendarPartsSpec)

/-- ITS FALSE NEIGHBOUR: 'it returns false'. Refute it at one input. -/
def calendarPartsWrong : ChangeSpec := { name := "calendarParts", fn := fun _ => fun
  | [d1, d2, d3] => { results := [.lit (.bool false)], args := [d1, d2, d3] }
  | _ => none }
def CalendarPartsWrongFalsely : Prop := calendarPartsRow.holds Try.pinned (OpenSpec.ofChange calendarPartsWrong)

/- THE SECOND FORM. 'bulk': how many values and letters a reading holds, each counted each time it is reached (what is shared counts as often as it is met; a slice's spare places count too). A statement '..UptoSaid' is the law's where the arguments, and the package variables that the reading takes, are together of bulk at most 1048576: NARROWER than '..Said'. Prove '..Said' where nothing that the law and all that it calls make is longer than what came in: it says more and counts as full. Else prove '..UptoSaid'. A law counts once. -/
mutual
def uptoBulk {H : Type} : DataW H → Nat
  | .lit (.string bytes) => bytes.length + 1
  | .lit _ => 1
  | .nil => 1
  | .ptr d => uptoBulk d + 1
  | .slice elems spare => uptoBulkAll elems + uptoBulkAll spare + 1
  | .agg parts => uptoBulkAll parts + 1
  | .iface _ d => uptoBulk d + 1
  | .map entries => uptoBulkEntries entries + 1
  | .held _ => 1
def uptoBulkAll {H : Type} : List (DataW H) → Nat
  | [] => 0
  | d :: r => uptoBulk d + uptoBulkAll r
def uptoBulkEntries {H : Type} : List (Lit × DataW H) → Nat
  | [] => 0
  | x :: r => uptoBulkEntry x + uptoBulkEntries r
def uptoBulkEntry {H : Type} : Lit × DataW H → Nat
  | (.string bytes, d) => bytes.length + uptoBulk d + 1
  | (_, d) => uptoBulk d + 1
 end
def uptoSmall : (H : Type) → List (DataW H) → Bool := fun _ ds => decide (uptoBulkAll ds ≤ 1048576)
def OpenSpec.upto (s : _root_.Go.ChangeSpec) : _root_.Go.OpenSpec := { _root_.Go.OpenSpec.ofChange s with cond := some uptoSmall }

/-- 'tallystonelaw07.CalendarValid', WHERE WHAT IT READS IS OF BULK AT MOST 1048576: true; the input reads as it did. -/
def calendarValidUptoRow : OpenClaim := { program := "ytdloccpcbcpdgaa", sum := "9ad79874cfe433579db7145f3b24b10dbf918f1caf6d4d395202cdf5138c604f", func := "tallystone/tallystonelaw07.CalendarValid", spec := "calendarValid", recurses := true, apart := false, narrowed := true }
def CalendarValidUptoSaid : Prop := calendarValidUptoRow.holds Try.pinned (OpenSpec.upto calendarValidSpec)

/-- 'tallystonelaw07.CalendarDays', WHERE WHAT IT READS IS OF BULK AT MOST 1048576: true; the input reads as it did. -/
def calendarDaysUptoRow : OpenClaim := { program := "ytdloccpcbcpdgaa", sum := "9ad79874cfe433579db7145f3b24b10dbf918f1caf6d4d395202cdf5138c604f", func := "tallystone/tallystonelaw07.CalendarDays", spec := "calendarDays", apart := false, narrowed := true }
def CalendarDaysUptoSaid : Prop := calendarDaysUptoRow.holds Try.pinned (OpenSpec.upto calendarDaysSpec)

/-- 'tallystonelaw07.CalendarPeriod', WHERE WHAT IT READS IS OF BULK AT MOST 1048576: true; the input reads as it did. -/
def calendarPeriodUptoRow : OpenClaim := { program := "ytdloccpcbcpdgaa", sum := "9ad79874cfe433579db7145f3b24b10dbf918f1caf6d4d395202cdf5138c604f", func := "tallystone/tallystonelaw07.CalendarPeriod", spec := "calendarPeriod", apart := false, narrowed := true }
def CalendarPeriodUptoSaid : Prop := calendarPeriodUptoRow.holds Try.pinned (OpenSpec.upto calendarPeriodSpec)

/-- 'tallystonelaw07.CalendarYears', WHERE WHAT IT READS IS OF BULK AT MOST 1048576: true; the input reads as it did. -/
def calendarYearsUptoRow : OpenClaim := { program := "ytdloccpcbcpdgaa", sum := "9ad79874cfe433579db7145f3b24b10dbf918f1caf6d4d395202cdf5138c604f", func := "tallystone/tallystonelaw07.CalendarYears", spec := "calendarYears", apart := false, narrowed := true }
def CalendarYearsUptoSaid : Prop := calendarYearsUptoRow.holds Try.pinned (OpenSpec.upto calendarYearsSpec)

/-- 'tallystonelaw07.CalendarTiles', WHERE WHAT IT READS IS OF BULK AT MOST 1048576: true; the input reads as it did. -/
def calendarTilesUptoRow : OpenClaim := { program := "ytdloccpcbcpdgaa", sum := "9ad79874cfe433579db7145f3b24b10dbf918f1caf6d4d395202cdf5138c604f", func := "tallystone/tallystonelaw07.CalendarTiles", spec := "calendarTiles", apart := false, narrowed := true }
def CalendarTilesUptoSaid : Prop := calendarTilesUptoRow.holds Try.pinned (OpenSpec.upto calendarTilesSpec)

/-- 'tallystonelaw07.CalendarBegins', WHERE WHAT IT READS IS OF BULK AT MOST 1048576: true; the input reads as it did. -/
def calendarBeginsUptoRow : OpenClaim := { program := "ytdloccpcbcpdgaa", sum := "9ad79874cfe433579db7145f3b24b10dbf918f1caf6d4d395202cdf5138c604f", func := "tallystone/tallystonelaw07.CalendarBegins", spec := "calendarBegins", apart := false, narrowed := true }
def CalendarBeginsUptoSaid : Prop := calendarBeginsUptoRow.holds Try.pinned (OpenSpec.upto calendarBeginsSpec)

/-- 'tallystonelaw07.CalendarParts', WHERE WHAT IT READS IS OF BULK AT MOST 1048576: true; the input reads as it did. -/
def calendarPartsUptoRow : OpenClaim := { program := "ytdloccpcbcpdgaa", sum := "9ad79874cfe433579db7145f3b24b10dbf918f1caf6d4d395202cdf5138c604f", func := "tallystone/tallystonelaw07.CalendarParts", spec := "calendarParts", apart := false, narrowed := true }
def CalendarPartsUptoSaid : Prop := calendarPartsUptoRow.holds Try.pinned (OpenSpec.upto calendarPartsSpec)

end Rows
end Go.Proofs.Ytdloccpcbcpdgaa
