/-
  DERIVED. GIVEN WITH THE SEED: THE CARDS: each row of YtbpgbdnfoofnaaaDoorRows.lean that lists a variable, with what it lists TIED to the program's text (the seventh form; the later family's looks); each row that meets fmt, with fmt's text TOLD by the authors' own Lean function (tested against real Go, not proved from fmt's source: count such statements apart). THE CARD IS WHAT COUNTS. Prove the row's statement (the work); the ties are given (YtbpgbdnfoofnaaaDoorTie.lean); close each card by the builder's one call (the guide's Derived/Test/ToyasCard.lean, 'card_holds'). Laid BY PROGRAM, IN A SANDBOX (cutbox-door.mjs). By AI agents, Wed Nov 11 2026. No macro, syntax, notation, axiom, sorry.
-/
import Derived.Test.YtbpgbdnfoofnaaaDoorRows
import GoSem.ClaimSeven
namespace Go.Proofs.YtbpgbdnfoofnaaaDoor
namespace Rows

/-- THE TIED CARD OF 'humpyardlaw04.DetectorLimits'. -/
def detectorLimitsCard : Claim7 := { stood := { row := detectorLimitsRow, standIns := [], harness := (true, "16d1ce08b7d6f3fd357f6f54e8e59f3d8a469c01f0216d642e0374841e043005"), looks := false }, kinds := [], alts := [], laidByText := true, laidKinds := [.data], laidTests := true, laidLooks := .later }
def DetectorLimitsCardSaid : Prop := Claim7.holds Tryd.pinned (.plain (OpenSpec.ofChange detectorLimitsSpec)) detectorLimitsCard

/-- THE TIED CARD OF 'humpyardlaw04.DetectorExact'. -/
def detectorExactCard : Claim7 := { stood := { row := detectorExactRow, standIns := [], harness := (true, "16d1ce08b7d6f3fd357f6f54e8e59f3d8a469c01f0216d642e0374841e043005"), looks := false }, kinds := [], alts := [], laidByText := true, laidKinds := [.data], laidTests := true, laidLooks := .later }
def DetectorExactCardSaid : Prop := Claim7.holds Tryd.pinned (.plain (OpenSpec.ofChange detectorExactSpec)) detectorExactCard

/-- THE TIED CARD OF 'humpyardlaw04.DetectorOneBit'. -/
def detectorOneBitCard : Claim7 := { stood := { row := detectorOneBitRow, standIns := [], harness := (true, "16d1ce08b7d6f3fd357f6f54e8e59f3d8a469c01f0216d642e0374841e043005"), looks := false }, kinds := [], alts := [], laidByText := true, laidKinds := [.data], laidTests := true, laidLooks := .later }
def DetectorOneBitCardSaid : Prop := Claim7.holds Tryd.pinned (.plain (OpenSpec.ofChange detectorOneBitSpec)) detectorOneBitCard

/-- THE TIED CARD OF 'humpyardlaw04.DetectorLoss'. -/
def detectorLossCard : Claim7 := { stood := { row := detectorLossRow, standIns := [], harness := (true, "16d1ce08b7d6f3fd357f6f54e8e59f3d8a469c01f0216d642e0374841e043005"), looks := false }, kinds := [], alts := [], laidByText := true, laidKinds := [.data], laidTests := true, laidLooks := .later }
def DetectorLossCardSaid : Prop := Claim7.holds Tryd.pinned (.plain (OpenSpec.ofChange detectorLossSpec)) detectorLossCard

/-- THE TIED CARD OF 'humpyardlaw04.DetectorJoins'. -/
def detectorJoinsCard : Claim7 := { stood := { row := detectorJoinsRow, standIns := [], harness := (true, "16d1ce08b7d6f3fd357f6f54e8e59f3d8a469c01f0216d642e0374841e043005"), looks := false }, kinds := [], alts := [], laidByText := true, laidKinds := [.data], laidTests := true, laidLooks := .later }
def DetectorJoinsCardSaid : Prop := Claim7.holds Tryd.pinned (.plain (OpenSpec.ofChange detectorJoinsSpec)) detectorJoinsCard

/-- THE TIED CARD OF 'humpyardlaw04.DetectorShort'. -/
def detectorShortCard : Claim7 := { stood := { row := detectorShortRow, standIns := [], harness := (true, "16d1ce08b7d6f3fd357f6f54e8e59f3d8a469c01f0216d642e0374841e043005"), looks := false }, kinds := [], alts := [], laidByText := true, laidKinds := [.data], laidTests := true, laidLooks := .later }
def DetectorShortCardSaid : Prop := Claim7.holds Tryd.pinned (.plain (OpenSpec.ofChange detectorShortSpec)) detectorShortCard

/-- THE SECOND FORM's CARD OF 'humpyardlaw04.DetectorLimits'. -/
def detectorLimitsUptoCard : Claim7 := { stood := { row := detectorLimitsUptoRow, standIns := [], harness := (true, "16d1ce08b7d6f3fd357f6f54e8e59f3d8a469c01f0216d642e0374841e043005"), looks := false }, kinds := [], alts := [], laidByText := true, laidKinds := [.data], laidTests := true, laidLooks := .later }
def DetectorLimitsUptoCardSaid : Prop := Claim7.holds Tryd.pinned (.plain (OpenSpec.upto detectorLimitsSpec)) detectorLimitsUptoCard

/-- THE SECOND FORM's CARD OF 'humpyardlaw04.DetectorExact'. -/
def detectorExactUptoCard : Claim7 := { stood := { row := detectorExactUptoRow, standIns := [], harness := (true, "16d1ce08b7d6f3fd357f6f54e8e59f3d8a469c01f0216d642e0374841e043005"), looks := false }, kinds := [], alts := [], laidByText := true, laidKinds := [.data], laidTests := true, laidLooks := .later }
def DetectorExactUptoCardSaid : Prop := Claim7.holds Tryd.pinned (.plain (OpenSpec.upto detectorExactSpec)) detectorExactUptoCard

/-- THE SECOND FORM's CARD OF 'humpyardlaw04.DetectorOneBit'. -/
def detectorOneBitUptoCard : Claim7 := { stood := { row := detectorOneBitUptoRow, standIns := [], harness := (true, "16d1ce08b7d6f3fd357f6f54e8e59f3d8a469c01f0216d642e0374841e043005"), looks := false }, kinds := [], alts := [], laidByText := true, laidKinds := [.data], laidTests := true, laidLooks := .later }
def DetectorOneBitUptoCardSaid : Prop := Claim7.holds Tryd.pinned (.plain (OpenSpec.upto detectorOneBitSpec)) detectorOneBitUptoCard

/-- THE SECOND FORM's CARD OF 'humpyardlaw04.DetectorLoss'. -/
def detectorLossUptoCard : Claim7 := { stood := { row := detectorLossUptoRow, standIns := [], harness := (true, "16d1ce08b7d6f3fd357f6f54e8e59f3d8a469c01f0216d642e0374841e043005"), looks := false }, kinds := [], alts := [], laidByText := true, laidKinds := [.data], laidTests := true, laidLooks := .later }
def DetectorLossUptoCardSaid : Prop := Claim7.holds Tryd.pinned (.plain (OpenSpec.upto detectorLossSpec)) detectorLossUptoCard

/-- THE SECOND FORM's CARD OF 'humpyardlaw04.DetectorJoins'. -/
def detectorJoinsUptoCard : Claim7 := { stood := { row := detectorJoinsUptoRow, standIns := [], harness := (true, "16d1ce08b7d6f3fd357f6f54e8e59f3d8a469c01f0216d642e0374841e043005"), looks := false }, kinds := [], alts := [], laidByText := true, laidKinds := [.data], laidTests := true, laidLooks := .later }
def DetectorJoinsUptoCardSaid : Prop := Claim7.holds Tryd.pinned (.plain (OpenSpec.upto detectorJoinsSpec)) detectorJoinsUptoCard

/-- THE SECOND FORM's CARD OF 'humpyardlaw04.DetectorShort'. -/
def detectorShortUptoCard : Claim7 := { stood := { row := detectorShortUptoRow, standIns := [], harness := (true, "16d1ce08b7d6f3fd357f6f54e8e59f3d8a469c01f0216d642e0374841e043005"), looks := false }, kinds := [], alts := [], laidByText := true, laidKinds := [.data], laidTests := true, laidLooks := .later }
def DetectorShortUptoCardSaid : Prop := Claim7.holds Tryd.pinned (.plain (OpenSpec.upto detectorShortSpec)) detectorShortUptoCard
end Rows
end Go.Proofs.YtbpgbdnfoofnaaaDoor
