/-
  DERIVED. GIVEN WITH THE SEED: THE CARDS: each row of YthndbonfcdphgaaDoorRows.lean that lists a variable, with what it lists TIED to the program's text (the seventh form; the later family's looks); each row that meets fmt, with fmt's text TOLD by the authors' own Lean function (tested against real Go, not proved from fmt's source: count such statements apart). THE CARD IS WHAT COUNTS. Prove the row's statement (the work); the ties are given (YthndbonfcdphgaaDoorTie.lean); close each card by the builder's one call (the guide's Derived/Test/ToyasCard.lean, 'card_holds'). Laid BY PROGRAM, IN A SANDBOX (cutbox-door.mjs). By AI agents, Wed Nov 11 2026. No macro, syntax, notation, axiom, sorry.
-/
import Derived.Test.YthndbonfcdphgaaDoorRows
import GoSem.ClaimSeven
namespace Go.Proofs.YthndbonfcdphgaaDoor
namespace Rows

/-- THE TIED CARD OF 'tallystonelaw04.MoneyAdd'. -/
def moneyAddCard : Claim7 := { stood := { row := moneyAddRow, standIns := [], harness := (true, "cee67fc402c5c81299012d7e6a3b60486dcd3bf4eebdc9d88b6623a6dffc4210"), looks := true }, kinds := [], alts := [], laidByText := true, laidKinds := [.data, .data, .data], laidTests := true, laidLooks := .later }
def MoneyAddCardSaid : Prop := Claim7.holds Tryd.pinned (.plain (OpenSpec.ofChange moneyAddSpec)) moneyAddCard

/-- THE TIED CARD OF 'tallystonelaw04.MoneySum'. -/
def moneySumCard : Claim7 := { stood := { row := moneySumRow, standIns := [], harness := (true, "cee67fc402c5c81299012d7e6a3b60486dcd3bf4eebdc9d88b6623a6dffc4210"), looks := true }, kinds := [], alts := [], laidByText := true, laidKinds := [.data, .data, .data], laidTests := true, laidLooks := .later }
def MoneySumCardSaid : Prop := Claim7.holds Tryd.pinned (.plain (OpenSpec.ofChange moneySumSpec)) moneySumCard

/-- THE TIED CARD OF 'tallystonelaw04.MoneyConvert'. -/
def moneyConvertCard : Claim7 := { stood := { row := moneyConvertRow, standIns := [], harness := (true, "cee67fc402c5c81299012d7e6a3b60486dcd3bf4eebdc9d88b6623a6dffc4210"), looks := true }, kinds := [], alts := [], laidByText := true, laidKinds := [.data, .data, .data], laidTests := true, laidLooks := .later }
def MoneyConvertCardSaid : Prop := Claim7.holds Tryd.pinned (.plain (OpenSpec.ofChange moneyConvertSpec)) moneyConvertCard

/-- THE TIED CARD OF 'tallystonelaw04.MoneyPortion'. -/
def moneyPortionCard : Claim7 := { stood := { row := moneyPortionRow, standIns := [], harness := (true, "cee67fc402c5c81299012d7e6a3b60486dcd3bf4eebdc9d88b6623a6dffc4210"), looks := true }, kinds := [], alts := [], laidByText := true, laidKinds := [.data, .data, .data], laidTests := true, laidLooks := .later }
def MoneyPortionCardSaid : Prop := Claim7.holds Tryd.pinned (.plain (OpenSpec.ofChange moneyPortionSpec)) moneyPortionCard

/-- THE TIED CARD OF 'tallystonelaw04.MoneyNearest'. -/
def moneyNearestCard : Claim7 := { stood := { row := moneyNearestRow, standIns := [], harness := (true, "cee67fc402c5c81299012d7e6a3b60486dcd3bf4eebdc9d88b6623a6dffc4210"), looks := true }, kinds := [], alts := [], laidByText := true, laidKinds := [.data, .data, .data], laidTests := true, laidLooks := .later }
def MoneyNearestCardSaid : Prop := Claim7.holds Tryd.pinned (.plain (OpenSpec.ofChange moneyNearestSpec)) moneyNearestCard

/-- THE TIED CARD OF 'tallystonelaw04.MoneyMonotonic'. -/
def moneyMonotonicCard : Claim7 := { stood := { row := moneyMonotonicRow, standIns := [], harness := (true, "cee67fc402c5c81299012d7e6a3b60486dcd3bf4eebdc9d88b6623a6dffc4210"), looks := true }, kinds := [], alts := [], laidByText := true, laidKinds := [.data, .data, .data], laidTests := true, laidLooks := .later }
def MoneyMonotonicCardSaid : Prop := Claim7.holds Tryd.pinned (.plain (OpenSpec.ofChange moneyMonotonicSpec)) moneyMonotonicCard

/-- THE TIED CARD OF 'tallystonelaw04.MoneyText'. -/
def moneyTextCard : Claim7 := { stood := { row := moneyTextRow, standIns := [], harness := (true, "cee67fc402c5c81299012d7e6a3b60486dcd3bf4eebdc9d88b6623a6dffc4210"), looks := true }, kinds := [], alts := [], laidByText := true, laidKinds := [.data, .data, .data, .data, .sentinel, .sentinel, .pinned], laidTests := true, laidLooks := .later }
def MoneyTextCardSaid : Prop := Claim7.holds Tryd.pinned (.plain (OpenSpec.ofChange moneyTextSpec)) moneyTextCard

/-- THE TIED CARD OF 'tallystonelaw04.MoneyParse'. -/
def moneyParseCard : Claim7 := { stood := { row := moneyParseRow, standIns := [], harness := (true, "cee67fc402c5c81299012d7e6a3b60486dcd3bf4eebdc9d88b6623a6dffc4210"), looks := true }, kinds := [], alts := [], laidByText := true, laidKinds := [.data, .data, .data, .data, .sentinel, .sentinel, .pinned], laidTests := true, laidLooks := .later }
def MoneyParseCardSaid : Prop := Claim7.holds Tryd.pinned (.plain (OpenSpec.ofChange moneyParseSpec)) moneyParseCard

/-- THE TIED CARD OF 'tallystonelaw03.DecimalParse'. -/
def decimalParseCard : Claim7 := { stood := { row := decimalParseRow, standIns := [], harness := (true, "cee67fc402c5c81299012d7e6a3b60486dcd3bf4eebdc9d88b6623a6dffc4210"), looks := true }, kinds := [], alts := [], laidByText := true, laidKinds := [.data, .data, .data, .data, .sentinel, .sentinel, .pinned], laidTests := true, laidLooks := .later }
def DecimalParseCardSaid : Prop := Claim7.holds Tryd.pinned (.plain (OpenSpec.ofChange decimalParseSpec)) decimalParseCard

/-- THE SECOND FORM's CARD OF 'tallystonelaw04.MoneyAdd'. -/
def moneyAddUptoCard : Claim7 := { stood := { row := moneyAddUptoRow, standIns := [], harness := (true, "cee67fc402c5c81299012d7e6a3b60486dcd3bf4eebdc9d88b6623a6dffc4210"), looks := true }, kinds := [], alts := [], laidByText := true, laidKinds := [.data, .data, .data], laidTests := true, laidLooks := .later }
def MoneyAddUptoCardSaid : Prop := Claim7.holds Tryd.pinned (.plain (OpenSpec.upto moneyAddSpec)) moneyAddUptoCard

/-- THE SECOND FORM's CARD OF 'tallystonelaw04.MoneySum'. -/
def moneySumUptoCard : Claim7 := { stood := { row := moneySumUptoRow, standIns := [], harness := (true, "cee67fc402c5c81299012d7e6a3b60486dcd3bf4eebdc9d88b6623a6dffc4210"), looks := true }, kinds := [], alts := [], laidByText := true, laidKinds := [.data, .data, .data], laidTests := true, laidLooks := .later }
def MoneySumUptoCardSaid : Prop := Claim7.holds Tryd.pinned (.plain (OpenSpec.upto moneySumSpec)) moneySumUptoCard

/-- THE SECOND FORM's CARD OF 'tallystonelaw04.MoneyConvert'. -/
def moneyConvertUptoCard : Claim7 := { stood := { row := moneyConvertUptoRow, standIns := [], harness := (true, "cee67fc402c5c81299012d7e6a3b60486dcd3bf4eebdc9d88b6623a6dffc4210"), looks := true }, kinds := [], alts := [], laidByText := true, laidKinds := [.data, .data, .data], laidTests := true, laidLooks := .later }
def MoneyConvertUptoCardSaid : Prop := Claim7.holds Tryd.pinned (.plain (OpenSpec.upto moneyConvertSpec)) moneyConvertUptoCard

/-- THE SECOND FORM's CARD OF 'tallystonelaw04.MoneyPortion'. -/
def moneyPortionUptoCard : Claim7 := { stood := { row := moneyPortionUptoRow, standIns := [], harness := (true, "cee67fc402c5c81299012d7e6a3b60486dcd3bf4eebdc9d88b6623a6dffc4210"), looks := true }, kinds := [], alts := [], laidByText := true, laidKinds := [.data, .data, .data], laidTests := true, laidLooks := .later }
def MoneyPortionUptoCardSaid : Prop := Claim7.holds Tryd.pinned (.plain (OpenSpec.upto moneyPortionSpec)) moneyPortionUptoCard

/-- THE SECOND FORM's CARD OF 'tallystonelaw04.MoneyNearest'. -/
def moneyNearestUptoCard : Claim7 := { stood := { row := moneyNearestUptoRow, standIns := [], harness := (true, "cee67fc402c5c81299012d7e6a3b60486dcd3bf4eebdc9d88b6623a6dffc4210"), looks := true }, kinds := [], alts := [], laidByText := true, laidKinds := [.data, .data, .data], laidTests := true, laidLooks := .later }
def MoneyNearestUptoCardSaid : Prop := Claim7.holds Tryd.pinned (.plain (OpenSpec.upto moneyNearestSpec)) moneyNearestUptoCard

/-- THE SECOND FORM's CARD OF 'tallystonelaw04.MoneyMonotonic'. -/
def moneyMonotonicUptoCard : Claim7 := { stood := { row := moneyMonotonicUptoRow, standIns := [], harness := (true, "cee67fc402c5c81299012d7e6a3b60486dcd3bf4eebdc9d88b6623a6dffc4210"), looks := true }, kinds := [], alts := [], laidByText := true, laidKinds := [.data, .data, .data], laidTests := true, laidLooks := .later }
def MoneyMonotonicUptoCardSaid : Prop := Claim7.holds Tryd.pinned (.plain (OpenSpec.upto moneyMonotonicSpec)) moneyMonotonicUptoCard

/-- THE SECOND FORM's CARD OF 'tallystonelaw04.MoneyText'. -/
def moneyTextUptoCard : Claim7 := { stood := { row := moneyTextUptoRow, standIns := [], harness := (true, "cee67fc402c5c81299012d7e6a3b60486dcd3bf4eebdc9d88b6623a6dffc4210"), looks := true }, kinds := [], alts := [], laidByText := true, laidKinds := [.data, .data, .data, .data, .sentinel, .sentinel, .pinned], laidTests := true, laidLooks := .later }
def MoneyTextUptoCardSaid : Prop := Claim7.holds Tryd.pinned (.plain (OpenSpec.upto moneyTextSpec)) moneyTextUptoCard

/-- THE SECOND FORM's CARD OF 'tallystonelaw04.MoneyParse'. -/
def moneyParseUptoCard : Claim7 := { stood := { row := moneyParseUptoRow, standIns := [], harness := (true, "cee67fc402c5c81299012d7e6a3b60486dcd3bf4eebdc9d88b6623a6dffc4210"), looks := true }, kinds := [], alts := [], laidByText := true, laidKinds := [.data, .data, .data, .data, .sentinel, .sentinel, .pinned], laidTests := true, laidLooks := .later }
def MoneyParseUptoCardSaid : Prop := Claim7.holds Tryd.pinned (.plain (OpenSpec.upto moneyParseSpec)) moneyParseUptoCard

/-- THE SECOND FORM's CARD OF 'tallystonelaw03.DecimalParse'. -/
def decimalParseUptoCard : Claim7 := { stood := { row := decimalParseUptoRow, standIns := [], harness := (true, "cee67fc402c5c81299012d7e6a3b60486dcd3bf4eebdc9d88b6623a6dffc4210"), looks := true }, kinds := [], alts := [], laidByText := true, laidKinds := [.data, .data, .data, .data, .sentinel, .sentinel, .pinned], laidTests := true, laidLooks := .later }
def DecimalParseUptoCardSaid : Prop := Claim7.holds Tryd.pinned (.plain (OpenSpec.upto decimalParseSpec)) decimalParseUptoCard
end Rows
end Go.Proofs.YthndbonfcdphgaaDoor
