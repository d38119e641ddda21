/-
  DERIVED. GIVEN WITH THE SEED: THE CARDS: each row of YteeoecegpnmafaaDoorRows.lean that lists a variable, with what it lists TIED to the program's text (the seventh form; the later family's looks); each row that meets fmt, with fmt's text TOLD by the authors' own Lean function (tested against real Go, not proved from fmt's source: count such statements apart). THE CARD IS WHAT COUNTS. Prove the row's statement (the work); the ties are given (YteeoecegpnmafaaDoorTie.lean); close each card by the builder's one call (the guide's Derived/Test/ToyasCard.lean, 'card_holds'). Laid BY PROGRAM, IN A SANDBOX (cutbox-door.mjs). By AI agents, Wed Nov 11 2026. No macro, syntax, notation, axiom, sorry.
-/
import Derived.Test.YteeoecegpnmafaaDoorRows
import GoSem.ClaimSeven
namespace Go.Proofs.YteeoecegpnmafaaDoor
namespace Rows

/-- THE TIED CARD OF 'humpyardlaw10.TreeExact'. -/
def treeExactCard : Claim7 := { stood := { row := treeExactRow, standIns := [], harness := (true, "5eba905af978a01729d2b8d9384f08b812d7ce53395163ab061a53412ea45f0a"), looks := false }, kinds := [], alts := [], laidByText := true, laidKinds := [.data, .data, .pinned], laidTests := true, laidLooks := .later }
def TreeExactCardSaid : Prop := Claim7.holds Tryd.pinned (.plain (OpenSpec.ofChange treeExactSpec)) treeExactCard

/-- THE TIED CARD OF 'humpyardlaw10.TreePaths'. -/
def treePathsCard : Claim7 := { stood := { row := treePathsRow, standIns := [], harness := (true, "5eba905af978a01729d2b8d9384f08b812d7ce53395163ab061a53412ea45f0a"), looks := false }, kinds := [], alts := [], laidByText := true, laidKinds := [.data, .data, .pinned], laidTests := true, laidLooks := .later }
def TreePathsCardSaid : Prop := Claim7.holds Tryd.pinned (.plain (OpenSpec.ofChange treePathsSpec)) treePathsCard

/-- THE TIED CARD OF 'humpyardlaw10.TreeCommon'. -/
def treeCommonCard : Claim7 := { stood := { row := treeCommonRow, standIns := [], harness := (true, "5eba905af978a01729d2b8d9384f08b812d7ce53395163ab061a53412ea45f0a"), looks := false }, kinds := [], alts := [], laidByText := true, laidKinds := [.data, .data, .pinned], laidTests := true, laidLooks := .later }
def TreeCommonCardSaid : Prop := Claim7.holds Tryd.pinned (.plain (OpenSpec.ofChange treeCommonSpec)) treeCommonCard

/-- THE TIED CARD OF 'humpyardlaw10.TreeBeyond'. -/
def treeBeyondCard : Claim7 := { stood := { row := treeBeyondRow, standIns := [], harness := (true, "5eba905af978a01729d2b8d9384f08b812d7ce53395163ab061a53412ea45f0a"), looks := false }, kinds := [], alts := [], laidByText := true, laidKinds := [.data, .data, .pinned], laidTests := true, laidLooks := .later }
def TreeBeyondCardSaid : Prop := Claim7.holds Tryd.pinned (.plain (OpenSpec.ofChange treeBeyondSpec)) treeBeyondCard

/-- THE TIED CARD OF 'humpyardlaw10.TreeLeads'. -/
def treeLeadsCard : Claim7 := { stood := { row := treeLeadsRow, standIns := [], harness := (true, "5eba905af978a01729d2b8d9384f08b812d7ce53395163ab061a53412ea45f0a"), looks := false }, kinds := [], alts := [], laidByText := true, laidKinds := [.data, .data, .pinned], laidTests := true, laidLooks := .later }
def TreeLeadsCardSaid : Prop := Claim7.holds Tryd.pinned (.plain (OpenSpec.ofChange treeLeadsSpec)) treeLeadsCard

/-- THE SECOND FORM's CARD OF 'humpyardlaw10.TreeExact'. -/
def treeExactUptoCard : Claim7 := { stood := { row := treeExactUptoRow, standIns := [], harness := (true, "5eba905af978a01729d2b8d9384f08b812d7ce53395163ab061a53412ea45f0a"), looks := false }, kinds := [], alts := [], laidByText := true, laidKinds := [.data, .data, .pinned], laidTests := true, laidLooks := .later }
def TreeExactUptoCardSaid : Prop := Claim7.holds Tryd.pinned (.plain (OpenSpec.upto treeExactSpec)) treeExactUptoCard

/-- THE SECOND FORM's CARD OF 'humpyardlaw10.TreePaths'. -/
def treePathsUptoCard : Claim7 := { stood := { row := treePathsUptoRow, standIns := [], harness := (true, "5eba905af978a01729d2b8d9384f08b812d7ce53395163ab061a53412ea45f0a"), looks := false }, kinds := [], alts := [], laidByText := true, laidKinds := [.data, .data, .pinned], laidTests := true, laidLooks := .later }
def TreePathsUptoCardSaid : Prop := Claim7.holds Tryd.pinned (.plain (OpenSpec.upto treePathsSpec)) treePathsUptoCard

/-- THE SECOND FORM's CARD OF 'humpyardlaw10.TreeCommon'. -/
def treeCommonUptoCard : Claim7 := { stood := { row := treeCommonUptoRow, standIns := [], harness := (true, "5eba905af978a01729d2b8d9384f08b812d7ce53395163ab061a53412ea45f0a"), looks := false }, kinds := [], alts := [], laidByText := true, laidKinds := [.data, .data, .pinned], laidTests := true, laidLooks := .later }
def TreeCommonUptoCardSaid : Prop := Claim7.holds Tryd.pinned (.plain (OpenSpec.upto treeCommonSpec)) treeCommonUptoCard

/-- THE SECOND FORM's CARD OF 'humpyardlaw10.TreeBeyond'. -/
def treeBeyondUptoCard : Claim7 := { stood := { row := treeBeyondUptoRow, standIns := [], harness := (true, "5eba905af978a01729d2b8d9384f08b812d7ce53395163ab061a53412ea45f0a"), looks := false }, kinds := [], alts := [], laidByText := true, laidKinds := [.data, .data, .pinned], laidTests := true, laidLooks := .later }
def TreeBeyondUptoCardSaid : Prop := Claim7.holds Tryd.pinned (.plain (OpenSpec.upto treeBeyondSpec)) treeBeyondUptoCard

/-- THE SECOND FORM's CARD OF 'humpyardlaw10.TreeLeads'. -/
def treeLeadsUptoCard : Claim7 := { stood := { row := treeLeadsUptoRow, standIns := [], harness := (true, "5eba905af978a01729d2b8d9384f08b812d7ce53395163ab061a53412ea45f0a"), looks := false }, kinds := [], alts := [], laidByText := true, laidKinds := [.data, .data, .pinned], laidTests := true, laidLooks := .later }
def TreeLeadsUptoCardSaid : Prop := Claim7.holds Tryd.pinned (.plain (OpenSpec.upto treeLeadsSpec)) treeLeadsUptoCard
end Rows
end Go.Proofs.YteeoecegpnmafaaDoor
