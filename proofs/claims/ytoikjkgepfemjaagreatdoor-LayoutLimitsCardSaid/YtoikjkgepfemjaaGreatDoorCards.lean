/-
  DERIVED. GIVEN WITH THE SEED: THE CARDS: each row of YtoikjkgepfemjaaGreatDoorRows.lean that lists a variable, with what it lists TIED to the program's text (the seventh form; the later family's looks); each row that meets fmt, with fmt's text TOLD by the authors' own Lean function (tested against real Go, not proved from fmt's source: count such statements apart). THE CARD IS WHAT COUNTS. Prove the row's statement (the work); the ties are given (YtoikjkgepfemjaaGreatDoorTie.lean); close each card by the builder's one call (the guide's Derived/Test/ToyasCard.lean, 'card_holds'). Laid BY PROGRAM, IN A SANDBOX (cutbox-door.mjs). By AI agents, Wed Nov 11 2026. No macro, syntax, notation, axiom, sorry.
-/
import Derived.Test.YtoikjkgepfemjaaGreatDoorRows
import GoSem.ClaimSeven
namespace Go.Proofs.YtoikjkgepfemjaaGreatDoor
namespace Rows

/-- THE TIED CARD OF 'humpyardlaw09.LayoutLimits'. -/
def layoutLimitsCard : Claim7 := { stood := { row := layoutLimitsRow, standIns := [], harness := (true, "fdfe5606eb305f06872c223dfa6e6ae9b36796401b5f8c2397a6517e804b62c9"), looks := true }, kinds := [], alts := [], laidByText := true, laidKinds := [.data, .data, .data, .data, .sentinel, .sentinel, .data, .data, .pinned], laidTests := true, laidLooks := .later }
def LayoutLimitsCardSaid : Prop := Claim7.holds Tryz.pinned (.plain (OpenSpec.ofChange layoutLimitsSpec)) layoutLimitsCard

/-- THE TIED CARD OF 'humpyardlaw09.LayoutText'. -/
def layoutTextCard : Claim7 := { stood := { row := layoutTextRow, standIns := [], harness := (true, "fdfe5606eb305f06872c223dfa6e6ae9b36796401b5f8c2397a6517e804b62c9"), looks := true }, kinds := [], alts := [], laidByText := true, laidKinds := [.data, .data, .data, .data, .sentinel, .sentinel, .data, .data, .pinned], laidTests := true, laidLooks := .later }
def LayoutTextCardSaid : Prop := Claim7.holds Tryz.pinned (.plain (OpenSpec.ofChange layoutTextSpec)) layoutTextCard

/-- THE TIED CARD OF 'humpyardlaw09.LayoutValid'. -/
def layoutValidCard : Claim7 := { stood := { row := layoutValidRow, standIns := [], harness := (true, "fdfe5606eb305f06872c223dfa6e6ae9b36796401b5f8c2397a6517e804b62c9"), looks := true }, kinds := [], alts := [], laidByText := true, laidKinds := [.data, .data, .data, .data, .sentinel, .sentinel, .data, .data, .pinned], laidTests := true, laidLooks := .later }
def LayoutValidCardSaid : Prop := Claim7.holds Tryz.pinned (.plain (OpenSpec.ofChange layoutValidSpec)) layoutValidCard

/-- THE TIED CARD OF 'humpyardlaw09.LayoutParses'. -/
def layoutParsesCard : Claim7 := { stood := { row := layoutParsesRow, standIns := [], harness := (true, "fdfe5606eb305f06872c223dfa6e6ae9b36796401b5f8c2397a6517e804b62c9"), looks := true }, kinds := [], alts := [], laidByText := true, laidKinds := [.data, .data, .data, .data, .sentinel, .sentinel, .data, .data, .pinned], laidTests := true, laidLooks := .later }
def LayoutParsesCardSaid : Prop := Claim7.holds Tryz.pinned (.plain (OpenSpec.ofChange layoutParsesSpec)) layoutParsesCard

/-- THE TIED CARD OF 'humpyardlaw09.LayoutReturns'. -/
def layoutReturnsCard : Claim7 := { stood := { row := layoutReturnsRow, standIns := [], harness := (true, "fdfe5606eb305f06872c223dfa6e6ae9b36796401b5f8c2397a6517e804b62c9"), looks := true }, kinds := [], alts := [], laidByText := true, laidKinds := [.data, .data, .data, .data, .sentinel, .sentinel, .data, .data, .pinned], laidTests := true, laidLooks := .later }
def LayoutReturnsCardSaid : Prop := Claim7.holds Tryz.pinned (.plain (OpenSpec.ofChange layoutReturnsSpec)) layoutReturnsCard

/-- THE TIED CARD OF 'humpyardlaw09.LayoutCounts'. -/
def layoutCountsCard : Claim7 := { stood := { row := layoutCountsRow, standIns := [], harness := (true, "fdfe5606eb305f06872c223dfa6e6ae9b36796401b5f8c2397a6517e804b62c9"), looks := true }, kinds := [], alts := [], laidByText := true, laidKinds := [.data, .data, .data, .data, .sentinel, .sentinel, .data, .data, .pinned], laidTests := true, laidLooks := .later }
def LayoutCountsCardSaid : Prop := Claim7.holds Tryz.pinned (.plain (OpenSpec.ofChange layoutCountsSpec)) layoutCountsCard

/-- THE TIED CARD OF 'humpyardlaw09.LayoutLine'. -/
def layoutLineCard : Claim7 := { stood := { row := layoutLineRow, standIns := [], harness := (true, "fdfe5606eb305f06872c223dfa6e6ae9b36796401b5f8c2397a6517e804b62c9"), looks := true }, kinds := [], alts := [], laidByText := true, laidKinds := [.data, .data, .data, .data, .sentinel, .sentinel, .data, .data, .pinned], laidTests := true, laidLooks := .later }
def LayoutLineCardSaid : Prop := Claim7.holds Tryz.pinned (.plain (OpenSpec.ofChange layoutLineSpec)) layoutLineCard

/-- THE SECOND FORM's CARD OF 'humpyardlaw09.LayoutLimits'. -/
def layoutLimitsUptoCard : Claim7 := { stood := { row := layoutLimitsUptoRow, standIns := [], harness := (true, "fdfe5606eb305f06872c223dfa6e6ae9b36796401b5f8c2397a6517e804b62c9"), looks := true }, kinds := [], alts := [], laidByText := true, laidKinds := [.data, .data, .data, .data, .sentinel, .sentinel, .data, .data, .pinned], laidTests := true, laidLooks := .later }
def LayoutLimitsUptoCardSaid : Prop := Claim7.holds Tryz.pinned (.plain (OpenSpec.upto layoutLimitsSpec)) layoutLimitsUptoCard

/-- THE SECOND FORM's CARD OF 'humpyardlaw09.LayoutText'. -/
def layoutTextUptoCard : Claim7 := { stood := { row := layoutTextUptoRow, standIns := [], harness := (true, "fdfe5606eb305f06872c223dfa6e6ae9b36796401b5f8c2397a6517e804b62c9"), looks := true }, kinds := [], alts := [], laidByText := true, laidKinds := [.data, .data, .data, .data, .sentinel, .sentinel, .data, .data, .pinned], laidTests := true, laidLooks := .later }
def LayoutTextUptoCardSaid : Prop := Claim7.holds Tryz.pinned (.plain (OpenSpec.upto layoutTextSpec)) layoutTextUptoCard

/-- THE SECOND FORM's CARD OF 'humpyardlaw09.LayoutValid'. -/
def layoutValidUptoCard : Claim7 := { stood := { row := layoutValidUptoRow, standIns := [], harness := (true, "fdfe5606eb305f06872c223dfa6e6ae9b36796401b5f8c2397a6517e804b62c9"), looks := true }, kinds := [], alts := [], laidByText := true, laidKinds := [.data, .data, .data, .data, .sentinel, .sentinel, .data, .data, .pinned], laidTests := true, laidLooks := .later }
def LayoutValidUptoCardSaid : Prop := Claim7.holds Tryz.pinned (.plain (OpenSpec.upto layoutValidSpec)) layoutValidUptoCard

/-- THE SECOND FORM's CARD OF 'humpyardlaw09.LayoutParses'. -/
def layoutParsesUptoCard : Claim7 := { stood := { row := layoutParsesUptoRow, standIns := [], harness := (true, "fdfe5606eb305f06872c223dfa6e6ae9b36796401b5f8c2397a6517e804b62c9"), looks := true }, kinds := [], alts := [], laidByText := true, laidKinds := [.data, .data, .data, .data, .sentinel, .sentinel, .data, .data, .pinned], laidTests := true, laidLooks := .later }
def LayoutParsesUptoCardSaid : Prop := Claim7.holds Tryz.pinned (.plain (OpenSpec.upto layoutParsesSpec)) layoutParsesUptoCard

/-- THE SECOND FORM's CARD OF 'humpyardlaw09.LayoutReturns'. -/
def layoutReturnsUptoCard : Claim7 := { stood := { row := layoutReturnsUptoRow, standIns := [], harness := (true, "fdfe5606eb305f06872c223dfa6e6ae9b36796401b5f8c2397a6517e804b62c9"), looks := true }, kinds := [], alts := [], laidByText := true, laidKinds := [.data, .data, .data, .data, .sentinel, .sentinel, .data, .data, .pinned], laidTests := true, laidLooks := .later }
def LayoutReturnsUptoCardSaid : Prop := Claim7.holds Tryz.pinned (.plain (OpenSpec.upto layoutReturnsSpec)) layoutReturnsUptoCard

/-- THE SECOND FORM's CARD OF 'humpyardlaw09.LayoutCounts'. -/
def layoutCountsUptoCard : Claim7 := { stood := { row := layoutCountsUptoRow, standIns := [], harness := (true, "fdfe5606eb305f06872c223dfa6e6ae9b36796401b5f8c2397a6517e804b62c9"), looks := true }, kinds := [], alts := [], laidByText := true, laidKinds := [.data, .data, .data, .data, .sentinel, .sentinel, .data, .data, .pinned], laidTests := true, laidLooks := .later }
def LayoutCountsUptoCardSaid : Prop := Claim7.holds Tryz.pinned (.plain (OpenSpec.upto layoutCountsSpec)) layoutCountsUptoCard

/-- THE SECOND FORM's CARD OF 'humpyardlaw09.LayoutLine'. -/
def layoutLineUptoCard : Claim7 := { stood := { row := layoutLineUptoRow, standIns := [], harness := (true, "fdfe5606eb305f06872c223dfa6e6ae9b36796401b5f8c2397a6517e804b62c9"), looks := true }, kinds := [], alts := [], laidByText := true, laidKinds := [.data, .data, .data, .data, .sentinel, .sentinel, .data, .data, .pinned], laidTests := true, laidLooks := .later }
def LayoutLineUptoCardSaid : Prop := Claim7.holds Tryz.pinned (.plain (OpenSpec.upto layoutLineSpec)) layoutLineUptoCard
end Rows
end Go.Proofs.YtoikjkgepfemjaaGreatDoor
