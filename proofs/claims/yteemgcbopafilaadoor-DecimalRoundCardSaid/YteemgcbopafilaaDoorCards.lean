/-
  DERIVED. GIVEN WITH THE SEED: THE CARDS: each row of YteemgcbopafilaaDoorRows.lean that lists a variable, with what it lists TIED to the program's text (the seventh form; the later family's looks); each row that meets fmt, with fmt's text TOLD by the authors' own Lean function (tested against real Go, not proved from fmt's source: count such statements apart). THE CARD IS WHAT COUNTS. Prove the row's statement (the work); the ties are given (YteemgcbopafilaaDoorTie.lean); close each card by the builder's one call (the guide's Derived/Test/ToyasCard.lean, 'card_holds'). Laid BY PROGRAM, IN A SANDBOX (cutbox-door.mjs). By AI agents, Wed Nov 11 2026. No macro, syntax, notation, axiom, sorry.
-/
import Derived.Test.YteemgcbopafilaaDoorRows
import GoSem.ClaimSeven
namespace Go.Proofs.YteemgcbopafilaaDoor
namespace Rows

/-- THE TIED CARD OF 'tallystonelaw03.DecimalRound'. -/
def decimalRoundCard : Claim7 := { stood := { row := decimalRoundRow, standIns := [], harness := (true, "74fb39ed64f9c5558dfb1b67a23331cf11ad81a5b674bb2e95438ad97e6a582f"), looks := false }, kinds := [], alts := [], laidByText := true, laidKinds := [.data, .data, .data], laidTests := true, laidLooks := .later }
def DecimalRoundCardSaid : Prop := Claim7.holds Tryd.pinned (.plain (OpenSpec.ofChange decimalRoundSpec)) decimalRoundCard

/-- THE SECOND FORM's CARD OF 'tallystonelaw03.DecimalRound'. -/
def decimalRoundUptoCard : Claim7 := { stood := { row := decimalRoundUptoRow, standIns := [], harness := (true, "74fb39ed64f9c5558dfb1b67a23331cf11ad81a5b674bb2e95438ad97e6a582f"), looks := false }, kinds := [], alts := [], laidByText := true, laidKinds := [.data, .data, .data], laidTests := true, laidLooks := .later }
def DecimalRoundUptoCardSaid : Prop := Claim7.holds Tryd.pinned (.plain (OpenSpec.upto decimalRoundSpec)) decimalRoundUptoCard
end Rows
end Go.Proofs.YteemgcbopafilaaDoor
