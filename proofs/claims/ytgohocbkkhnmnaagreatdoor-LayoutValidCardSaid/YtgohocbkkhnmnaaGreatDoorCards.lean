/-
  DERIVED. GIVEN WITH THE SEED: THE CARDS: each row of YtgohocbkkhnmnaaGreatDoorRows.lean that lists a variable, with what it lists TIED to the program's text (the seventh form; the later family's looks); each row that meets fmt, with fmt's text TOLD by the authors' own Lean function (tested against real Go, not proved from fmt's source: count such statements apart). THE CARD IS WHAT COUNTS. Prove the row's statement (the work); the ties are given (YtgohocbkkhnmnaaGreatDoorTie.lean); close each card by the builder's one call (the guide's Derived/Test/ToyasCard.lean, 'card_holds'). Laid BY PROGRAM, IN A SANDBOX (cutbox-door.mjs). By AI agents, Wed Nov 11 2026. No macro, syntax, notation, axiom, sorry.
-/
import Derived.Test.YtgohocbkkhnmnaaGreatDoorRows
import GoSem.ClaimSeven
namespace Go.Proofs.YtgohocbkkhnmnaaGreatDoor
namespace Rows

/-- THE TIED CARD OF 'humpyardlaw09.LayoutValid'. -/
def layoutValidCard : Claim7 := { stood := { row := layoutValidRow, standIns := [], harness := (true, "eacdb9a52c9271f9262b530c962e880f113cb5fe7025d43dca57db1e24e97628"), looks := true }, kinds := [], alts := [], laidByText := true, laidKinds := [.data, .data, .data, .data, .sentinel, .sentinel, .data, .data, .pinned], laidTests := true, laidLooks := .later }
def LayoutValidCardSaid : Prop := Claim7.holds Tryz.pinned (.plain (OpenSpec.ofChange layoutValidSpec)) layoutValidCard

/-- THE SECOND FORM's CARD OF 'humpyardlaw09.LayoutValid'. -/
def layoutValidUptoCard : Claim7 := { stood := { row := layoutValidUptoRow, standIns := [], harness := (true, "eacdb9a52c9271f9262b530c962e880f113cb5fe7025d43dca57db1e24e97628"), looks := true }, kinds := [], alts := [], laidByText := true, laidKinds := [.data, .data, .data, .data, .sentinel, .sentinel, .data, .data, .pinned], laidTests := true, laidLooks := .later }
def LayoutValidUptoCardSaid : Prop := Claim7.holds Tryz.pinned (.plain (OpenSpec.upto layoutValidSpec)) layoutValidUptoCard
end Rows
end Go.Proofs.YtgohocbkkhnmnaaGreatDoor
