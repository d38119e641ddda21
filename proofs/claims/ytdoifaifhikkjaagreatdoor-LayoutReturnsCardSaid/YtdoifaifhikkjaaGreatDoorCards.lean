/-
  DERIVED. GIVEN WITH THE SEED: THE CARDS: each row of YtdoifaifhikkjaaGreatDoorRows.lean that lists a variable, with what it lists TIED to the program's text (the seventh form; the later family's looks); each row that meets fmt, with fmt's text TOLD by the authors' own Lean function (tested against real Go, not proved from fmt's source: count such statements apart). THE CARD IS WHAT COUNTS. Prove the row's statement (the work); the ties are given (YtdoifaifhikkjaaGreatDoorTie.lean); close each card by the builder's one call (the guide's Derived/Test/ToyasCard.lean, 'card_holds'). Laid BY PROGRAM, IN A SANDBOX (cutbox-door.mjs). By AI agents, Wed Nov 11 2026. No macro, syntax, notation, axiom, sorry.
-/
import Derived.Test.YtdoifaifhikkjaaGreatDoorRows
import GoSem.ClaimSeven
namespace Go.Proofs.YtdoifaifhikkjaaGreatDoor
namespace Rows

/-- THE TIED CARD OF 'humpyardlaw09.LayoutReturns'. -/
def layoutReturnsCard : Claim7 := { stood := { row := layoutReturnsRow, standIns := [], harness := (true, "0f2f4b3d8b64377ab4f5933837074ab1b4c08592a8351126993262370249121e"), looks := true }, kinds := [], alts := [], laidByText := true, laidKinds := [.data, .data, .data, .data, .sentinel, .sentinel, .data, .data, .pinned], laidTests := true, laidLooks := .later }
def LayoutReturnsCardSaid : Prop := Claim7.holds Tryz.pinned (.plain (OpenSpec.ofChange layoutReturnsSpec)) layoutReturnsCard

/-- THE SECOND FORM's CARD OF 'humpyardlaw09.LayoutReturns'. -/
def layoutReturnsUptoCard : Claim7 := { stood := { row := layoutReturnsUptoRow, standIns := [], harness := (true, "0f2f4b3d8b64377ab4f5933837074ab1b4c08592a8351126993262370249121e"), looks := true }, kinds := [], alts := [], laidByText := true, laidKinds := [.data, .data, .data, .data, .sentinel, .sentinel, .data, .data, .pinned], laidTests := true, laidLooks := .later }
def LayoutReturnsUptoCardSaid : Prop := Claim7.holds Tryz.pinned (.plain (OpenSpec.upto layoutReturnsSpec)) layoutReturnsUptoCard
end Rows
end Go.Proofs.YtdoifaifhikkjaaGreatDoor
