/-
  DERIVED. GIVEN WITH THE SEED: THE CARDS: each row of YtakncgfnkflmoaaGreatDoorRows.lean that lists a variable, with what it lists TIED to the program's text (the seventh form; the later family's looks); each row that meets fmt, with fmt's text TOLD by the authors' own Lean function (tested against real Go, not proved from fmt's source: count such statements apart). THE CARD IS WHAT COUNTS. Prove the row's statement (the work); the ties are given (YtakncgfnkflmoaaGreatDoorTie.lean); close each card by the builder's one call (the guide's Derived/Test/ToyasCard.lean, 'card_holds'). Laid BY PROGRAM, IN A SANDBOX (cutbox-door.mjs). By AI agents, Wed Nov 11 2026. No macro, syntax, notation, axiom, sorry.
-/
import Derived.Test.YtakncgfnkflmoaaGreatDoorRows
import GoSem.ClaimSeven
namespace Go.Proofs.YtakncgfnkflmoaaGreatDoor
namespace Rows

/-- THE TIED CARD OF 'humpyardlaw09.LayoutLine'. -/
def layoutLineCard : Claim7 := { stood := { row := layoutLineRow, standIns := [], harness := (true, "9cf775cb1916f59102a271f6cbc5cbcd63c4f1f953fc4866394579bed7fae62f"), looks := true }, kinds := [], alts := [], laidByText := true, laidKinds := [.data, .data, .data, .data, .sentinel, .sentinel, .data, .data, .pinned], laidTests := true, laidLooks := .later }
def LayoutLineCardSaid : Prop := Claim7.holds Tryz.pinned (.plain (OpenSpec.ofChange layoutLineSpec)) layoutLineCard

/-- THE SECOND FORM's CARD OF 'humpyardlaw09.LayoutLine'. -/
def layoutLineUptoCard : Claim7 := { stood := { row := layoutLineUptoRow, standIns := [], harness := (true, "9cf775cb1916f59102a271f6cbc5cbcd63c4f1f953fc4866394579bed7fae62f"), looks := true }, kinds := [], alts := [], laidByText := true, laidKinds := [.data, .data, .data, .data, .sentinel, .sentinel, .data, .data, .pinned], laidTests := true, laidLooks := .later }
def LayoutLineUptoCardSaid : Prop := Claim7.holds Tryz.pinned (.plain (OpenSpec.upto layoutLineSpec)) layoutLineUptoCard
end Rows
end Go.Proofs.YtakncgfnkflmoaaGreatDoor
