/-
  DERIVED. GIVEN WITH THE SEED: THE CARDS: each row of YteeoecegpnmafaaGreatDoorRows.lean that lists a variable, with what it lists TIED to the program's text (the seventh form; the later family's looks); each row that meets fmt, with fmt's text TOLD by the authors' own Lean function (tested against real Go, not proved from fmt's source: count such statements apart). THE CARD IS WHAT COUNTS. Prove the row's statement (the work); the ties are given (YteeoecegpnmafaaGreatDoorTie.lean); close each card by the builder's one call (the guide's Derived/Test/ToyasCard.lean, 'card_holds'). Laid BY PROGRAM, IN A SANDBOX (cutbox-door.mjs). By AI agents, Wed Nov 11 2026. No macro, syntax, notation, axiom, sorry.
-/
import Derived.Test.YteeoecegpnmafaaGreatDoorRows
import GoSem.ClaimSeven
namespace Go.Proofs.YteeoecegpnmafaaGreatDoor
namespace Rows

/-- THE TIED CARD OF 'humpyardlaw09.LayoutValid'. -/
def layoutValidCard : Claim7 := { stood := { row := layoutValidRow, standIns := [], harness := (true, "5d53623466305d15ed3b33d9ca0ad50238b086b9c9c9901453ab79f0183d515b"), looks := true }, kinds := [], alts := [], laidByText := true, laidKinds := [.data, .data, .data, .data, .sentinel, .sentinel, .data, .data, .pinned], laidTests := true, laidLooks := .later }
def LayoutValidCardSaid : Prop := Claim7.holds Tryz.pinned (.plain (OpenSpec.ofChange layoutValidSpec)) layoutValidCard

/-- THE TIED CARD OF 'humpyardlaw09.LayoutParses'. -/
def layoutParsesCard : Claim7 := { stood := { row := layoutParsesRow, standIns := [], harness := (true, "5d53623466305d15ed3b33d9ca0ad50238b086b9c9c9901453ab79f0183d515b"), looks := true }, kinds := [], alts := [], laidByText := true, laidKinds := [.data, .data, .data, .data, .sentinel, .sentinel, .data, .data, .pinned], laidTests := true, laidLooks := .later }
def LayoutParsesCardSaid : Prop := Claim7.holds Tryz.pinned (.plain (OpenSpec.ofChange layoutParsesSpec)) layoutParsesCard

/-- THE TIED CARD OF 'humpyardlaw09.LayoutReturns'. -/
def layoutReturnsCard : Claim7 := { stood := { row := layoutReturnsRow, standIns := [], harness := (true, "5d53623466305d15ed3b33d9ca0ad50238b086b9c9c9901453ab79f0183d515b"), looks := true }, kinds := [], alts := [], laidByText := true, laidKinds := [.data, .data, .data, .data, .sentinel, .sentinel, .data, .data, .pinned], laidTests := true, laidLooks := .later }
def LayoutReturnsCardSaid : Prop := Claim7.holds Tryz.pinned (.plain (OpenSpec.ofChange layoutReturnsSpec)) layoutReturnsCard

/-- THE TIED CARD OF 'humpyardlaw09.LayoutCounts'. -/
def layoutCountsCard : Claim7 := { stood := { row := layoutCountsRow, standIns := [], harness := (true, "5d53623466305d15ed3b33d9ca0ad50238b086b9c9c9901453ab79f0183d515b"), looks := true }, kinds := [], alts := [], laidByText := true, laidKinds := [.data, .data, .data, .data, .sentinel, .sentinel, .data, .data, .pinned], laidTests := true, laidLooks := .later }
def LayoutCountsCardSaid : Prop := Claim7.holds Tryz.pinned (.plain (OpenSpec.ofChange layoutCountsSpec)) layoutCountsCard

/-- THE TIED CARD OF 'humpyardlaw09.LayoutLine'. -/
def layoutLineCard : Claim7 := { stood := { row := layoutLineRow, standIns := [], harness := (true, "5d53623466305d15ed3b33d9ca0ad50238b086b9c9c9901453ab79f0183d515b"), looks := true }, kinds := [], alts := [], laidByText := true, laidKinds := [.data, .data, .data, .data, .sentinel, .sentinel, .data, .data, .pinned], laidTests := true, laidLooks := .later }
def LayoutLineCardSaid : Prop := Claim7.holds Tryz.pinned (.plain (OpenSpec.ofChange layoutLineSpec)) layoutLineCard

/-- THE SECOND FORM's CARD OF 'humpyardlaw09.LayoutValid'. -/
def layoutValidUptoCard : Claim7 := { stood := { row := layoutValidUptoRow, standIns := [], harness := (true, "5d53623466305d15ed3b33d9ca0ad50238b086b9c9c9901453ab79f0183d515b"), looks := true }, kinds := [], alts := [], laidByText := true, laidKinds := [.data, .data, .data, .data, .sentinel, .sentinel, .data, .data, .pinned], laidTests := true, laidLooks := .later }
def LayoutValidUptoCardSaid : Prop := Claim7.holds Tryz.pinned (.plain (OpenSpec.upto layoutValidSpec)) layoutValidUptoCard

/-- THE SECOND FORM's CARD OF 'humpyardlaw09.LayoutParses'. -/
def layoutParsesUptoCard : Claim7 := { stood := { row := layoutParsesUptoRow, standIns := [], harness := (true, "5d53623466305d15ed3b33d9ca0ad50238b086b9c9c9901453ab79f0183d515b"), looks := true }, kinds := [], alts := [], laidByText := true, laidKinds := [.data, .data, .data, .data, .sentinel, .sentinel, .data, .data, .pinned], laidTests := true, laidLooks := .later }
def LayoutParsesUptoCardSaid : Prop := Claim7.holds Tryz.pinned (.plain (OpenSpec.upto layoutParsesSpec)) layoutParsesUptoCard

/-- THE SECOND FORM's CARD OF 'humpyardlaw09.LayoutReturns'. -/
def layoutReturnsUptoCard : Claim7 := { stood := { row := layoutReturnsUptoRow, standIns := [], harness := (true, "5d53623466305d15ed3b33d9ca0ad50238b086b9c9c9901453ab79f0183d515b"), looks := true }, kinds := [], alts := [], laidByText := true, laidKinds := [.data, .data, .data, .data, .sentinel, .sentinel, .data, .data, .pinned], laidTests := true, laidLooks := .later }
def LayoutReturnsUptoCardSaid : Prop := Claim7.holds Tryz.pinned (.plain (OpenSpec.upto layoutReturnsSpec)) layoutReturnsUptoCard

/-- THE SECOND FORM's CARD OF 'humpyardlaw09.LayoutCounts'. -/
def layoutCountsUptoCard : Claim7 := { stood := { row := layoutCountsUptoRow, standIns := [], harness := (true, "5d53623466305d15ed3b33d9ca0ad50238b086b9c9c9901453ab79f0183d515b"), looks := true }, kinds := [], alts := [], laidByText := true, laidKinds := [.data, .data, .data, .data, .sentinel, .sentinel, .data, .data, .pinned], laidTests := true, laidLooks := .later }
def LayoutCountsUptoCardSaid : Prop := Claim7.holds Tryz.pinned (.plain (OpenSpec.upto layoutCountsSpec)) layoutCountsUptoCard

/-- THE SECOND FORM's CARD OF 'humpyardlaw09.LayoutLine'. -/
def layoutLineUptoCard : Claim7 := { stood := { row := layoutLineUptoRow, standIns := [], harness := (true, "5d53623466305d15ed3b33d9ca0ad50238b086b9c9c9901453ab79f0183d515b"), looks := true }, kinds := [], alts := [], laidByText := true, laidKinds := [.data, .data, .data, .data, .sentinel, .sentinel, .data, .data, .pinned], laidTests := true, laidLooks := .later }
def LayoutLineUptoCardSaid : Prop := Claim7.holds Tryz.pinned (.plain (OpenSpec.upto layoutLineSpec)) layoutLineUptoCard
end Rows
end Go.Proofs.YteeoecegpnmafaaGreatDoor
