/-
  DERIVED. GIVEN WITH THE SEED: THE CARDS: each row of YthndbonfcdphgaaGreatDoorRows.lean that lists a variable, with what it lists TIED to the program's text (the seventh form; the later family's looks); each row that meets fmt, with fmt's text TOLD by the authors' own Lean function (tested against real Go, not proved from fmt's source: count such statements apart). THE CARD IS WHAT COUNTS. Prove the row's statement (the work); the ties are given (YthndbonfcdphgaaGreatDoorTie.lean); close each card by the builder's one call (the guide's Derived/Test/ToyasCard.lean, 'card_holds'). Laid BY PROGRAM, IN A SANDBOX (cutbox-door.mjs). By AI agents, Wed Nov 11 2026. No macro, syntax, notation, axiom, sorry.
-/
import Derived.Test.YthndbonfcdphgaaGreatDoorRows
import GoSem.ClaimSeven
namespace Go.Proofs.YthndbonfcdphgaaGreatDoor
namespace Rows

/-- THE TIED CARD OF 'tallystonelaw03.DecimalText'. -/
def decimalTextCard : Claim7 := { stood := { row := decimalTextRow, standIns := [], harness := (true, "96adc09f9d301f1e8b2097d3fc5f517f56a0473600a8e469aa77e785028fd406"), looks := true }, kinds := [], alts := [], laidByText := true, laidKinds := [.data, .data, .data, .data, .sentinel, .sentinel, .pinned], laidTests := true, laidLooks := .later }
def DecimalTextCardSaid : Prop := Claim7.holds Tryz.pinned (.plain (OpenSpec.ofChange decimalTextSpec)) decimalTextCard

/-- THE SECOND FORM's CARD OF 'tallystonelaw03.DecimalText'. -/
def decimalTextUptoCard : Claim7 := { stood := { row := decimalTextUptoRow, standIns := [], harness := (true, "96adc09f9d301f1e8b2097d3fc5f517f56a0473600a8e469aa77e785028fd406"), looks := true }, kinds := [], alts := [], laidByText := true, laidKinds := [.data, .data, .data, .data, .sentinel, .sentinel, .pinned], laidTests := true, laidLooks := .later }
def DecimalTextUptoCardSaid : Prop := Claim7.holds Tryz.pinned (.plain (OpenSpec.upto decimalTextSpec)) decimalTextUptoCard
end Rows
end Go.Proofs.YthndbonfcdphgaaGreatDoor
