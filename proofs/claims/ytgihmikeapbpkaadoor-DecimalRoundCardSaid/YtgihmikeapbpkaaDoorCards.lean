/-
  DERIVED. GIVEN WITH THE SEED: THE CARDS: each row of YtgihmikeapbpkaaDoorRows.lean that lists a variable, with what it lists TIED to the program's text (the seventh form; the later family's looks); each row that meets fmt, with fmt's text TOLD by the authors' own Lean function (tested against real Go, not proved from fmt's source: count such statements apart). THE CARD IS WHAT COUNTS. Prove the row's statement (the work); the ties are given (YtgihmikeapbpkaaDoorTie.lean); close each card by the builder's one call (the guide's Derived/Test/ToyasCard.lean, 'card_holds'). Laid BY PROGRAM, IN A SANDBOX (cutbox-door.mjs). By AI agents, Wed Nov 11 2026. No macro, syntax, notation, axiom, sorry.
-/
import Derived.Test.YtgihmikeapbpkaaDoorRows
import GoSem.ClaimSeven
namespace Go.Proofs.YtgihmikeapbpkaaDoor
namespace Rows

/-- THE TIED CARD OF 'tallystonelaw03.DecimalParse'. -/
def decimalParseCard : Claim7 := { stood := { row := decimalParseRow, standIns := [], harness := (true, "164807799f5b4700e996b1c4a220fd20694d2c14d47447f00bb6f24bf86a8a10"), looks := true }, kinds := [], alts := [], laidByText := true, laidKinds := [.data, .data, .data, .data, .sentinel, .sentinel, .pinned], laidTests := true, laidLooks := .later }
def DecimalParseCardSaid : Prop := Claim7.holds Tryd.pinned (.plain (OpenSpec.ofChange decimalParseSpec)) decimalParseCard

/-- THE TIED CARD OF 'tallystonelaw03.DecimalRound'. -/
def decimalRoundCard : Claim7 := { stood := { row := decimalRoundRow, standIns := [], harness := (true, "164807799f5b4700e996b1c4a220fd20694d2c14d47447f00bb6f24bf86a8a10"), looks := true }, kinds := [], alts := [], laidByText := true, laidKinds := [.data, .data, .data], laidTests := true, laidLooks := .later }
def DecimalRoundCardSaid : Prop := Claim7.holds Tryd.pinned (.plain (OpenSpec.ofChange decimalRoundSpec)) decimalRoundCard

/-- THE SECOND FORM's CARD OF 'tallystonelaw03.DecimalParse'. -/
def decimalParseUptoCard : Claim7 := { stood := { row := decimalParseUptoRow, standIns := [], harness := (true, "164807799f5b4700e996b1c4a220fd20694d2c14d47447f00bb6f24bf86a8a10"), looks := true }, kinds := [], alts := [], laidByText := true, laidKinds := [.data, .data, .data, .data, .sentinel, .sentinel, .pinned], laidTests := true, laidLooks := .later }
def DecimalParseUptoCardSaid : Prop := Claim7.holds Tryd.pinned (.plain (OpenSpec.upto decimalParseSpec)) decimalParseUptoCard

/-- THE SECOND FORM's CARD OF 'tallystonelaw03.DecimalRound'. -/
def decimalRoundUptoCard : Claim7 := { stood := { row := decimalRoundUptoRow, standIns := [], harness := (true, "164807799f5b4700e996b1c4a220fd20694d2c14d47447f00bb6f24bf86a8a10"), looks := true }, kinds := [], alts := [], laidByText := true, laidKinds := [.data, .data, .data], laidTests := true, laidLooks := .later }
def DecimalRoundUptoCardSaid : Prop := Claim7.holds Tryd.pinned (.plain (OpenSpec.upto decimalRoundSpec)) decimalRoundUptoCard
end Rows
end Go.Proofs.YtgihmikeapbpkaaDoor
