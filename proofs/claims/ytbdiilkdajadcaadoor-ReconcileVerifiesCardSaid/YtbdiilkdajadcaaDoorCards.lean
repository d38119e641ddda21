/-
  DERIVED. GIVEN WITH THE SEED: THE CARDS: each row of YtbdiilkdajadcaaDoorRows.lean that lists a variable, with what it lists TIED to the program's text (the seventh form; the later family's looks); each row that meets fmt, with fmt's text TOLD by the authors' own Lean function (tested against real Go, not proved from fmt's source: count such statements apart). THE CARD IS WHAT COUNTS. Prove the row's statement (the work); the ties are given (YtbdiilkdajadcaaDoorTie.lean); close each card by the builder's one call (the guide's Derived/Test/ToyasCard.lean, 'card_holds'). Laid BY PROGRAM, IN A SANDBOX (cutbox-door.mjs). By AI agents, Wed Nov 11 2026. No macro, syntax, notation, axiom, sorry.
-/
import Derived.Test.YtbdiilkdajadcaaDoorRows
import GoSem.ClaimSeven
namespace Go.Proofs.YtbdiilkdajadcaaDoor
namespace Rows

/-- THE TIED CARD OF 'humpyardlaw08.ReconcileLimits'. -/
def reconcileLimitsCard : Claim7 := { stood := { row := reconcileLimitsRow, standIns := [], harness := (true, "308effe9c2f93def4ebd8c7aa08816a5bf910645b8318fd0ad17391deebb7c41"), looks := false }, kinds := [], alts := [], laidByText := true, laidKinds := [.data], laidTests := true, laidLooks := .later }
def ReconcileLimitsCardSaid : Prop := Claim7.holds Tryd.pinned (.plain (OpenSpec.ofChange reconcileLimitsSpec)) reconcileLimitsCard

/-- THE TIED CARD OF 'humpyardlaw08.ReconcileExact'. -/
def reconcileExactCard : Claim7 := { stood := { row := reconcileExactRow, standIns := [], harness := (true, "308effe9c2f93def4ebd8c7aa08816a5bf910645b8318fd0ad17391deebb7c41"), looks := false }, kinds := [], alts := [], laidByText := true, laidKinds := [.data], laidTests := true, laidLooks := .later }
def ReconcileExactCardSaid : Prop := Claim7.holds Tryd.pinned (.plain (OpenSpec.ofChange reconcileExactSpec)) reconcileExactCard

/-- THE TIED CARD OF 'humpyardlaw08.ReconcileVerifies'. -/
def reconcileVerifiesCard : Claim7 := { stood := { row := reconcileVerifiesRow, standIns := [], harness := (true, "308effe9c2f93def4ebd8c7aa08816a5bf910645b8318fd0ad17391deebb7c41"), looks := false }, kinds := [], alts := [], laidByText := true, laidKinds := [.data], laidTests := true, laidLooks := .later }
def ReconcileVerifiesCardSaid : Prop := Claim7.holds Tryd.pinned (.plain (OpenSpec.ofChange reconcileVerifiesSpec)) reconcileVerifiesCard

/-- THE TIED CARD OF 'humpyardlaw08.ReconcileProof'. -/
def reconcileProofCard : Claim7 := { stood := { row := reconcileProofRow, standIns := [], harness := (true, "308effe9c2f93def4ebd8c7aa08816a5bf910645b8318fd0ad17391deebb7c41"), looks := false }, kinds := [], alts := [], laidByText := true, laidKinds := [.data], laidTests := true, laidLooks := .later }
def ReconcileProofCardSaid : Prop := Claim7.holds Tryd.pinned (.plain (OpenSpec.ofChange reconcileProofSpec)) reconcileProofCard

/-- THE TIED CARD OF 'humpyardlaw08.ReconcileCheaper'. -/
def reconcileCheaperCard : Claim7 := { stood := { row := reconcileCheaperRow, standIns := [], harness := (true, "308effe9c2f93def4ebd8c7aa08816a5bf910645b8318fd0ad17391deebb7c41"), looks := false }, kinds := [], alts := [], laidByText := true, laidKinds := [.data], laidTests := true, laidLooks := .later }
def ReconcileCheaperCardSaid : Prop := Claim7.holds Tryd.pinned (.plain (OpenSpec.ofChange reconcileCheaperSpec)) reconcileCheaperCard

/-- THE TIED CARD OF 'humpyardlaw08.ReconcileMetric'. -/
def reconcileMetricCard : Claim7 := { stood := { row := reconcileMetricRow, standIns := [], harness := (true, "308effe9c2f93def4ebd8c7aa08816a5bf910645b8318fd0ad17391deebb7c41"), looks := false }, kinds := [], alts := [], laidByText := true, laidKinds := [.data], laidTests := true, laidLooks := .later }
def ReconcileMetricCardSaid : Prop := Claim7.holds Tryd.pinned (.plain (OpenSpec.ofChange reconcileMetricSpec)) reconcileMetricCard

/-- THE SECOND FORM's CARD OF 'humpyardlaw08.ReconcileLimits'. -/
def reconcileLimitsUptoCard : Claim7 := { stood := { row := reconcileLimitsUptoRow, standIns := [], harness := (true, "308effe9c2f93def4ebd8c7aa08816a5bf910645b8318fd0ad17391deebb7c41"), looks := false }, kinds := [], alts := [], laidByText := true, laidKinds := [.data], laidTests := true, laidLooks := .later }
def ReconcileLimitsUptoCardSaid : Prop := Claim7.holds Tryd.pinned (.plain (OpenSpec.upto reconcileLimitsSpec)) reconcileLimitsUptoCard

/-- THE SECOND FORM's CARD OF 'humpyardlaw08.ReconcileExact'. -/
def reconcileExactUptoCard : Claim7 := { stood := { row := reconcileExactUptoRow, standIns := [], harness := (true, "308effe9c2f93def4ebd8c7aa08816a5bf910645b8318fd0ad17391deebb7c41"), looks := false }, kinds := [], alts := [], laidByText := true, laidKinds := [.data], laidTests := true, laidLooks := .later }
def ReconcileExactUptoCardSaid : Prop := Claim7.holds Tryd.pinned (.plain (OpenSpec.upto reconcileExactSpec)) reconcileExactUptoCard

/-- THE SECOND FORM's CARD OF 'humpyardlaw08.ReconcileVerifies'. -/
def reconcileVerifiesUptoCard : Claim7 := { stood := { row := reconcileVerifiesUptoRow, standIns := [], harness := (true, "308effe9c2f93def4ebd8c7aa08816a5bf910645b8318fd0ad17391deebb7c41"), looks := false }, kinds := [], alts := [], laidByText := true, laidKinds := [.data], laidTests := true, laidLooks := .later }
def ReconcileVerifiesUptoCardSaid : Prop := Claim7.holds Tryd.pinned (.plain (OpenSpec.upto reconcileVerifiesSpec)) reconcileVerifiesUptoCard

/-- THE SECOND FORM's CARD OF 'humpyardlaw08.ReconcileProof'. -/
def reconcileProofUptoCard : Claim7 := { stood := { row := reconcileProofUptoRow, standIns := [], harness := (true, "308effe9c2f93def4ebd8c7aa08816a5bf910645b8318fd0ad17391deebb7c41"), looks := false }, kinds := [], alts := [], laidByText := true, laidKinds := [.data], laidTests := true, laidLooks := .later }
def ReconcileProofUptoCardSaid : Prop := Claim7.holds Tryd.pinned (.plain (OpenSpec.upto reconcileProofSpec)) reconcileProofUptoCard

/-- THE SECOND FORM's CARD OF 'humpyardlaw08.ReconcileCheaper'. -/
def reconcileCheaperUptoCard : Claim7 := { stood := { row := reconcileCheaperUptoRow, standIns := [], harness := (true, "308effe9c2f93def4ebd8c7aa08816a5bf910645b8318fd0ad17391deebb7c41"), looks := false }, kinds := [], alts := [], laidByText := true, laidKinds := [.data], laidTests := true, laidLooks := .later }
def ReconcileCheaperUptoCardSaid : Prop := Claim7.holds Tryd.pinned (.plain (OpenSpec.upto reconcileCheaperSpec)) reconcileCheaperUptoCard

/-- THE SECOND FORM's CARD OF 'humpyardlaw08.ReconcileMetric'. -/
def reconcileMetricUptoCard : Claim7 := { stood := { row := reconcileMetricUptoRow, standIns := [], harness := (true, "308effe9c2f93def4ebd8c7aa08816a5bf910645b8318fd0ad17391deebb7c41"), looks := false }, kinds := [], alts := [], laidByText := true, laidKinds := [.data], laidTests := true, laidLooks := .later }
def ReconcileMetricUptoCardSaid : Prop := Claim7.holds Tryd.pinned (.plain (OpenSpec.upto reconcileMetricSpec)) reconcileMetricUptoCard
end Rows
end Go.Proofs.YtbdiilkdajadcaaDoor
