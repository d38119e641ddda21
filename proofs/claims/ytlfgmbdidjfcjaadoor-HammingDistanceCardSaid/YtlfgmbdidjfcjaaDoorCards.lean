/-
  DERIVED. GIVEN WITH THE SEED: THE CARDS: each row of YtlfgmbdidjfcjaaDoorRows.lean that lists a variable, with what it lists TIED to the program's text (the seventh form; the later family's looks); each row that meets fmt, with fmt's text TOLD by the authors' own Lean function (tested against real Go, not proved from fmt's source: count such statements apart). THE CARD IS WHAT COUNTS. Prove the row's statement (the work); the ties are given (YtlfgmbdidjfcjaaDoorTie.lean); close each card by the builder's one call (the guide's Derived/Test/ToyasCard.lean, 'card_holds'). Laid BY PROGRAM, IN A SANDBOX (cutbox-door.mjs). By AI agents, Wed Nov 11 2026. No macro, syntax, notation, axiom, sorry.
-/
import Derived.Test.YtlfgmbdidjfcjaaDoorRows
import GoSem.ClaimSeven
namespace Go.Proofs.YtlfgmbdidjfcjaaDoor
namespace Rows

/-- THE TIED CARD OF 'humpyardlaw03.HammingLimits'. -/
def hammingLimitsCard : Claim7 := { stood := { row := hammingLimitsRow, standIns := [], harness := (true, "8e816b431655b1e6a1b9f03d7418e356c10ac42ee0d27dcff14456cd133aeb94"), looks := false }, kinds := [], alts := [], laidByText := true, laidKinds := [.data], laidTests := true, laidLooks := .later }
def HammingLimitsCardSaid : Prop := Claim7.holds Tryd.pinned (.plain (OpenSpec.ofChange hammingLimitsSpec)) hammingLimitsCard

/-- THE TIED CARD OF 'humpyardlaw03.HammingExact'. -/
def hammingExactCard : Claim7 := { stood := { row := hammingExactRow, standIns := [], harness := (true, "8e816b431655b1e6a1b9f03d7418e356c10ac42ee0d27dcff14456cd133aeb94"), looks := false }, kinds := [], alts := [], laidByText := true, laidKinds := [.data], laidTests := true, laidLooks := .later }
def HammingExactCardSaid : Prop := Claim7.holds Tryd.pinned (.plain (OpenSpec.ofChange hammingExactSpec)) hammingExactCard

/-- THE TIED CARD OF 'humpyardlaw03.HammingCorrects'. -/
def hammingCorrectsCard : Claim7 := { stood := { row := hammingCorrectsRow, standIns := [], harness := (true, "8e816b431655b1e6a1b9f03d7418e356c10ac42ee0d27dcff14456cd133aeb94"), looks := false }, kinds := [], alts := [], laidByText := true, laidKinds := [.data], laidTests := true, laidLooks := .later }
def HammingCorrectsCardSaid : Prop := Claim7.holds Tryd.pinned (.plain (OpenSpec.ofChange hammingCorrectsSpec)) hammingCorrectsCard

/-- THE TIED CARD OF 'humpyardlaw03.HammingFinds'. -/
def hammingFindsCard : Claim7 := { stood := { row := hammingFindsRow, standIns := [], harness := (true, "8e816b431655b1e6a1b9f03d7418e356c10ac42ee0d27dcff14456cd133aeb94"), looks := false }, kinds := [], alts := [], laidByText := true, laidKinds := [.data], laidTests := true, laidLooks := .later }
def HammingFindsCardSaid : Prop := Claim7.holds Tryd.pinned (.plain (OpenSpec.ofChange hammingFindsSpec)) hammingFindsCard

/-- THE TIED CARD OF 'humpyardlaw03.HammingDistance'. -/
def hammingDistanceCard : Claim7 := { stood := { row := hammingDistanceRow, standIns := [], harness := (true, "8e816b431655b1e6a1b9f03d7418e356c10ac42ee0d27dcff14456cd133aeb94"), looks := false }, kinds := [], alts := [], laidByText := true, laidKinds := [.data], laidTests := true, laidLooks := .later }
def HammingDistanceCardSaid : Prop := Claim7.holds Tryd.pinned (.plain (OpenSpec.ofChange hammingDistanceSpec)) hammingDistanceCard

/-- THE TIED CARD OF 'humpyardlaw03.HammingPacks'. -/
def hammingPacksCard : Claim7 := { stood := { row := hammingPacksRow, standIns := [], harness := (true, "8e816b431655b1e6a1b9f03d7418e356c10ac42ee0d27dcff14456cd133aeb94"), looks := false }, kinds := [], alts := [], laidByText := true, laidKinds := [.data], laidTests := true, laidLooks := .later }
def HammingPacksCardSaid : Prop := Claim7.holds Tryd.pinned (.plain (OpenSpec.ofChange hammingPacksSpec)) hammingPacksCard

/-- THE TIED CARD OF 'humpyardlaw03.HammingLost'. -/
def hammingLostCard : Claim7 := { stood := { row := hammingLostRow, standIns := [], harness := (true, "8e816b431655b1e6a1b9f03d7418e356c10ac42ee0d27dcff14456cd133aeb94"), looks := false }, kinds := [], alts := [], laidByText := true, laidKinds := [.data], laidTests := true, laidLooks := .later }
def HammingLostCardSaid : Prop := Claim7.holds Tryd.pinned (.plain (OpenSpec.ofChange hammingLostSpec)) hammingLostCard

/-- THE SECOND FORM's CARD OF 'humpyardlaw03.HammingLimits'. -/
def hammingLimitsUptoCard : Claim7 := { stood := { row := hammingLimitsUptoRow, standIns := [], harness := (true, "8e816b431655b1e6a1b9f03d7418e356c10ac42ee0d27dcff14456cd133aeb94"), looks := false }, kinds := [], alts := [], laidByText := true, laidKinds := [.data], laidTests := true, laidLooks := .later }
def HammingLimitsUptoCardSaid : Prop := Claim7.holds Tryd.pinned (.plain (OpenSpec.upto hammingLimitsSpec)) hammingLimitsUptoCard

/-- THE SECOND FORM's CARD OF 'humpyardlaw03.HammingExact'. -/
def hammingExactUptoCard : Claim7 := { stood := { row := hammingExactUptoRow, standIns := [], harness := (true, "8e816b431655b1e6a1b9f03d7418e356c10ac42ee0d27dcff14456cd133aeb94"), looks := false }, kinds := [], alts := [], laidByText := true, laidKinds := [.data], laidTests := true, laidLooks := .later }
def HammingExactUptoCardSaid : Prop := Claim7.holds Tryd.pinned (.plain (OpenSpec.upto hammingExactSpec)) hammingExactUptoCard

/-- THE SECOND FORM's CARD OF 'humpyardlaw03.HammingCorrects'. -/
def hammingCorrectsUptoCard : Claim7 := { stood := { row := hammingCorrectsUptoRow, standIns := [], harness := (true, "8e816b431655b1e6a1b9f03d7418e356c10ac42ee0d27dcff14456cd133aeb94"), looks := false }, kinds := [], alts := [], laidByText := true, laidKinds := [.data], laidTests := true, laidLooks := .later }
def HammingCorrectsUptoCardSaid : Prop := Claim7.holds Tryd.pinned (.plain (OpenSpec.upto hammingCorrectsSpec)) hammingCorrectsUptoCard

/-- THE SECOND FORM's CARD OF 'humpyardlaw03.HammingFinds'. -/
def hammingFindsUptoCard : Claim7 := { stood := { row := hammingFindsUptoRow, standIns := [], harness := (true, "8e816b431655b1e6a1b9f03d7418e356c10ac42ee0d27dcff14456cd133aeb94"), looks := false }, kinds := [], alts := [], laidByText := true, laidKinds := [.data], laidTests := true, laidLooks := .later }
def HammingFindsUptoCardSaid : Prop := Claim7.holds Tryd.pinned (.plain (OpenSpec.upto hammingFindsSpec)) hammingFindsUptoCard

/-- THE SECOND FORM's CARD OF 'humpyardlaw03.HammingDistance'. -/
def hammingDistanceUptoCard : Claim7 := { stood := { row := hammingDistanceUptoRow, standIns := [], harness := (true, "8e816b431655b1e6a1b9f03d7418e356c10ac42ee0d27dcff14456cd133aeb94"), looks := false }, kinds := [], alts := [], laidByText := true, laidKinds := [.data], laidTests := true, laidLooks := .later }
def HammingDistanceUptoCardSaid : Prop := Claim7.holds Tryd.pinned (.plain (OpenSpec.upto hammingDistanceSpec)) hammingDistanceUptoCard

/-- THE SECOND FORM's CARD OF 'humpyardlaw03.HammingPacks'. -/
def hammingPacksUptoCard : Claim7 := { stood := { row := hammingPacksUptoRow, standIns := [], harness := (true, "8e816b431655b1e6a1b9f03d7418e356c10ac42ee0d27dcff14456cd133aeb94"), looks := false }, kinds := [], alts := [], laidByText := true, laidKinds := [.data], laidTests := true, laidLooks := .later }
def HammingPacksUptoCardSaid : Prop := Claim7.holds Tryd.pinned (.plain (OpenSpec.upto hammingPacksSpec)) hammingPacksUptoCard

/-- THE SECOND FORM's CARD OF 'humpyardlaw03.HammingLost'. -/
def hammingLostUptoCard : Claim7 := { stood := { row := hammingLostUptoRow, standIns := [], harness := (true, "8e816b431655b1e6a1b9f03d7418e356c10ac42ee0d27dcff14456cd133aeb94"), looks := false }, kinds := [], alts := [], laidByText := true, laidKinds := [.data], laidTests := true, laidLooks := .later }
def HammingLostUptoCardSaid : Prop := Claim7.holds Tryd.pinned (.plain (OpenSpec.upto hammingLostSpec)) hammingLostUptoCard
end Rows
end Go.Proofs.YtlfgmbdidjfcjaaDoor
