/-
  DERIVED. GIVEN WITH THE SEED: THE CARDS: each row of YtmpdpfiokjepaaaDoorRows.lean that lists a variable, with what it lists TIED to the program's text (the seventh form; the later family's looks); each row that meets fmt, with fmt's text TOLD by the authors' own Lean function (tested against real Go, not proved from fmt's source: count such statements apart). THE CARD IS WHAT COUNTS. Prove the row's statement (the work); the ties are given (YtmpdpfiokjepaaaDoorTie.lean); close each card by the builder's one call (the guide's Derived/Test/ToyasCard.lean, 'card_holds'). Laid BY PROGRAM, IN A SANDBOX (cutbox-door.mjs). By AI agents, Wed Nov 11 2026. No macro, syntax, notation, axiom, sorry.
-/
import Derived.Test.YtmpdpfiokjepaaaDoorRows
import GoSem.ClaimSeven
namespace Go.Proofs.YtmpdpfiokjepaaaDoor
namespace Rows

/-- THE TIED CARD OF 'tallystonelaw02.RationalOf'. -/
def rationalOfCard : Claim7 := { stood := { row := rationalOfRow, standIns := [], harness := (true, "6d079c815a5bcd1fce53a3125a6c02fba828047e9374a6fe7efa8b32fee69c9d"), looks := false }, kinds := [], alts := [], laidByText := true, laidKinds := [.data, .data, .data], laidTests := true, laidLooks := .later }
def RationalOfCardSaid : Prop := Claim7.holds Tryd.pinned (.plain (OpenSpec.ofChange rationalOfSpec)) rationalOfCard

/-- THE SECOND FORM's CARD OF 'tallystonelaw02.RationalOf'. -/
def rationalOfUptoCard : Claim7 := { stood := { row := rationalOfUptoRow, standIns := [], harness := (true, "6d079c815a5bcd1fce53a3125a6c02fba828047e9374a6fe7efa8b32fee69c9d"), looks := false }, kinds := [], alts := [], laidByText := true, laidKinds := [.data, .data, .data], laidTests := true, laidLooks := .later }
def RationalOfUptoCardSaid : Prop := Claim7.holds Tryd.pinned (.plain (OpenSpec.upto rationalOfSpec)) rationalOfUptoCard
end Rows
end Go.Proofs.YtmpdpfiokjepaaaDoor
