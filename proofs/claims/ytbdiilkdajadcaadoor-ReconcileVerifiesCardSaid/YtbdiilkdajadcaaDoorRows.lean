/-
  NARROWER THAN 'FOR EVERY INPUT', by the rows' own cells (each row's printed sentence says how): ReconcileLimits: laid · ReconcileExact: laid · ReconcileVerifies: laid · ReconcileProof: laid · ReconcileCheaper: laid · ReconcileMetric: laid.
  DERIVED. THE GIVEN ROWS OF THIS SEAT. 6 by the template 'for every input the law returns true; each argument reads behind the call as it read before'; 0 by the template 'total and deterministic' (their statements: YtbdiilkdajadcaaDoorTotals.lean).
  GIVEN WITH THE SEED: the statements are not yours to turn. If you find one false, say at which input.
  Laid BY PROGRAM, IN A SANDBOX (cutbox-rows.mjs): the forced cells as the released guide's own fill.sh prints them over the translation 17dd53665a76b451… (all of the seat's roots in one cut). By AI agents, Wed Nov 11 2026. No macro, syntax, notation, axiom, sorry.
-/
import Derived.Test.YtbdiilkdajadcaaDoorChecked
import GoSem.Claim
import GoSem.ClaimJoined
import GoSem.ClaimMapViews
import Derived.JoinedTies
import Derived.KernelRfl
namespace Go.Proofs.YtbdiilkdajadcaaDoor
/- THE CELL 'sum', in the pinned program and in every row, IS THE sha256 OF THE DUMP (.gsa) THAT YtbdiilkdajadcaaDoorProg.lean LOADS. Nothing in Lean hashes anything: it is a label: what it is worth is what the hold of that sum in a sandbox is worth. -/
noncomputable def Tryd.pinned : Pinned := { name := "ytbdiilkdajadcaadoor", sum := "17dd53665a76b45128f0b58e726082c909a5b4d66037a22871a911d92599d6e5", checked := Tryd.checked }
namespace Rows
def none {H : Type} : Left H := { results := [], args := [] }

/- WHAT THE LISTED PACKAGE-LEVEL VARIABLES READ AS WHEN THE CALL BEGINS. Each datum BY PROGRAM (the guide's laid-datum.mjs) off the statement by which the dump's own 'gosem.cut.vars' lays the variable. In a bare row this is a premise. The card (YtbdiilkdajadcaaDoorCards.lean) ties it to the program's text. -/
def laid_humpyard_reconcile_kinds {H : Type} : DataW H := .agg [.agg [.lit (.int .i64 1), .lit (.int .i64 1), .lit (.int .i64 0)], .agg [.lit (.int .i64 1), .lit (.int .i64 1), .lit (.int .i64 3)], .agg [.lit (.int .i64 1), .lit (.int .i64 0), .lit (.int .i64 4)], .agg [.lit (.int .i64 0), .lit (.int .i64 1), .lit (.int .i64 4)], .agg [.lit (.int .i64 2), .lit (.int .i64 2), .lit (.int .i64 4)]]

/-- 'humpyardlaw08.ReconcileLimits': WHATEVER THE INPUT: true; the input reads as it did. -/
def reconcileLimitsSpec : ChangeSpec := { name := "reconcileLimits", fn := fun _ => fun
  | [d1, d2] => { results := [.lit (.bool true)], args := [d1, d2] }
  | _ => none }
def reconcileLimitsRow : OpenClaim := { program := "ytbdiilkdajadcaadoor", sum := "17dd53665a76b45128f0b58e726082c909a5b4d66037a22871a911d92599d6e5", func := "humpyard/humpyardlaw08.ReconcileLimits", spec := "reconcileLimits", unfollowed := true, recurses := true, named := ["humpyard/reconcile.kinds"], apart := false, laid := [("humpyard/reconcile.kinds", laid_humpyard_reconcile_kinds)] }
def ReconcileLimitsSaid : Prop := reconcileLimitsRow.holds Tryd.pinned (OpenSpec.ofChange reconcileLimitsSpec)

/-- ITS FALSE NEIGHBOUR: 'it returns false'. Refute it at one input. -/
def reconcileLimitsWrong : ChangeSpec := { name := "reconcileLimits", fn := fun _ => fun
  | [d1, d2] => { results := [.lit (.bool false)], args := [d1, d2] }
  | _ => none }
def ReconcileLimitsWrongFalsely : Prop := reconcileLimitsRow.holds Tryd.pinned (OpenSpec.ofChange reconcileLimitsWrong)

/-- 'humpyardlaw08.ReconcileExact': WHATEVER THE INPUT: true; the input reads as it did. -/
def reconcileExactSpec : ChangeSpec := { name := "reconcileExact", fn := fun _ => fun
  | [d1, d2, d3, d4] => { results := [.lit (.bool true)], args := [d1, d2, d3, d4] }
  | _ => none }
def reconcileExactRow : OpenClaim := { program := "ytbdiilkdajadcaadoor", sum := "17dd53665a76b45128f0b58e726082c909a5b4d66037a22871a911d92599d6e5", func := "humpyard/humpyardlaw08.ReconcileExact", spec := "reconcileExact", unfollowed := true, recurses := true, named := ["humpyard/reconcile.kinds"], apart := false, laid := [("humpyard/reconcile.kinds", laid_humpyard_reconcile_kinds)] }
def ReconcileExactSaid : Prop := reconcileExactRow.holds Tryd.pinned (OpenSpec.ofChange reconcileExactSpec)

/-- ITS FALSE NEIGHBOUR: 'it returns false'. Refute it at one input. -/
def reconcileExactWrong : ChangeSpec := { name := "reconcileExact", fn := fun _ => fun
  | [d1, d2, d3, d4] => { results := [.lit (.bool false)], args := [d1, d2, d3, d4] }
  | _ => none }
def ReconcileExactWrongFalsely : Prop := reconcileExactRow.holds Tryd.pinned (OpenSpec.ofChange reconcileExactWrong)

/-- 'humpyardlaw08.ReconcileVerifies': WHATEVER THE INPUT: true; the input reads as it did. -/
def reconcileVerifiesSpec : ChangeSpec := { name := "reconcileVerifies", fn := fun _ => fun
  | [d1, d2, d3] => { results := [.lit (.bool true)], args := [d1, d2, d3] }
  | _ => none }
def reconcileVerifiesRow : OpenClaim := { program := "ytbdiilkdajadcaadoor", sum := "17dd53665a76b45128f0b58e726082c909a5b4d66037a22871a911d92599d6e5", func := "humpyard/humpyardlaw08.ReconcileVerifies", spec := "reconcileVerifies", unfollowed := true, recurses := true, named := ["humpyard/reconcile.kinds"], apart := false, laid := [("humpyard/reconcile.kinds", laid_humpyard_reconcile_kinds)] }
def ReconcileVerifiesSaid : Prop := reconcileVerifiesRow.holds Tryd.pinned (OpenSpec.ofChange reconcileVerifiesSpec)

/-- ITS FALSE NEIGHBOUR: 'it returns false'. Refute it at one input. -/
def reconcileVerifiesWrong : ChangeSpec := { name := "reconcileVerifies", fn := fun _ => fun
  | [d1, d2, d3] => { results := [.lit (.bool false)], args := [d1, d2, d3] }
  | _ => none }
def ReconcileVerifiesWrongFalsely : Prop := reconcileVerifiesRow.holds Tryd.pinned (OpenSpec.ofChange reconcileVerifiesWrong)

/-- 'humpyardlaw08.ReconcileProof': WHATEVER THE INPUT: true; the input reads as it did. -/
def reconcileProofSpec : ChangeSpec := { name := "reconcileProof", fn := fun _ => fun
  | [d1, d2, d3] => { results := [.lit (.bool true)], args := [d1, d2, d3] }
  | _ => none }
def reconcileProofRow : OpenClaim := { program := "ytbdiilkdajadcaadoor", sum := "17dd53665a76b45128f0b58e726082c909a5b4d66037a22871a911d92599d6e5", func := "humpyard/humpyardlaw08.ReconcileProof", spec := "reconcileProof", unfollowed := true, recurses := true, named := ["humpyard/reconcile.kinds"], apart := false, laid := [("humpyard/reconcile.kinds", laid_humpyard_reconcile_kinds)] }
def ReconcileProofSaid : Prop := reconcileProofRow.holds Tryd.pinned (OpenSpec.ofChange reconcileProofSpec)

/-- ITS FALSE NEIGHBOUR: 'it returns false'. Refute it at one input. -/
def reconcileProofWrong : ChangeSpec := { name := "reconcileProof", fn := fun _ => fun
  | [d1, d2, d3] => { results := [.lit (.bool false)], args := [d1, d2, d3] }
  | _ => none }
def ReconcileProofWrongFalsely : Prop := reconcileProofRow.holds Tryd.pinned (OpenSpec.ofChange reconcileProofWrong)

/-- 'humpyardlaw08.ReconcileCheaper': WHATEVER THE INPUT: true; the input reads as it did. -/
def reconcileCheaperSpec : ChangeSpec := { name := "reconcileCheaper", fn := fun _ => fun
  | [d] => { results := [.lit (.bool true)], args := [d] }
  | _ => none }
def reconcileCheaperRow : OpenClaim := { program := "ytbdiilkdajadcaadoor", sum := "17dd53665a76b45128f0b58e726082c909a5b4d66037a22871a911d92599d6e5", func := "humpyard/humpyardlaw08.ReconcileCheaper", spec := "reconcileCheaper", unfollowed := true, recurses := true, named := ["humpyard/reconcile.kinds"], apart := false, laid := [("humpyard/reconcile.kinds", laid_humpyard_reconcile_kinds)] }
def ReconcileCheaperSaid : Prop := reconcileCheaperRow.holds Tryd.pinned (OpenSpec.ofChange reconcileCheaperSpec)

/-- ITS FALSE NEIGHBOUR: 'it returns false'. Refute it at one input. -/
def reconcileCheaperWrong : ChangeSpec := { name := "reconcileCheaper", fn := fun _ => fun
  | [d] => { results := [.lit (.bool false)], args := [d] }
  | _ => none }
def ReconcileCheaperWrongFalsely : Prop := reconcileCheaperRow.holds Tryd.pinned (OpenSpec.ofChange reconcileCheaperWrong)

/-- 'humpyardlaw08.ReconcileMetric': WHATEVER THE INPUT: true; the input reads as it did. -/
def reconcileMetricSpec : ChangeSpec := { name := "reconcileMetric", fn := fun _ => fun
  | [d1, d2] => { results := [.lit (.bool true)], args := [d1, d2] }
  | _ => none }
def reconcileMetricRow : OpenClaim := { program := "ytbdiilkdajadcaadoor", sum := "17dd53665a76b45128f0b58e726082c909a5b4d66037a22871a911d92599d6e5", func := "humpyard/humpyardlaw08.ReconcileMetric", spec := "reconcileMetric", unfollowed := true, recurses := true, named := ["humpyard/reconcile.kinds"], apart := false, laid := [("humpyard/reconcile.kinds", laid_humpyard_reconcile_kinds)] }
def ReconcileMetricSaid : Prop := reconcileMetricRow.holds Tryd.pinned (OpenSpec.ofChange reconcileMetricSpec)

/-- ITS FALSE NEIGHBOUR: 'it returns false'. Refute it at one input. -/
def reconcileMetricWrong : ChangeSpec := { name := "reconcileMetric", fn := fun _ => fun
  | [d1, d2] => { results := [.lit (.bool false)], args := [d1, d2] }
  | _ => none }
def ReconcileMetricWrongFalsely : Prop := reconcileMetricRow.holds Tryd.pinned (OpenSpec.ofChange reconcileMetricWrong)

/- THE SECOND FORM. 'bulk': how many values and letters a reading holds, each counted each time it is reached (what is shared counts as often as it is met; a slice's spare places count too). A statement '..UptoSaid' is the law's where the arguments, and the package variables that the reading takes, are together of bulk at most 1048576: NARROWER than '..Said'. Prove '..Said' where nothing that the law and all that it calls make is longer than what came in: it says more and counts as full. Else prove '..UptoSaid'. A law counts once. -/
mutual
def uptoBulk {H : Type} : DataW H → Nat
  | .lit (.string bytes) => bytes.length + 1
  | .lit _ => 1
  | .nil => 1
  | .ptr d => uptoBulk d + 1
  | .slice elems spare => uptoBulkAll elems + uptoBulkAll spare + 1
  | .agg parts => uptoBulkAll parts + 1
  | .iface _ d => uptoBulk d + 1
  | .map entries => uptoBulkEntries entries + 1
  | .held _ => 1
def uptoBulkAll {H : Type} : List (DataW H) → Nat
  | [] => 0
  | d :: r => uptoBulk d + uptoBulkAll r
def uptoBulkEntries {H : Type} : List (Lit × DataW H) → Nat
  | [] => 0
  | x :: r => uptoBulkEntry x + uptoBulkEntries r
def uptoBulkEntry {H : Type} : Lit × DataW H → Nat
  | (.string bytes, d) => bytes.length + uptoBulk d + 1
  | (_, d) => uptoBulk d + 1
 end
def uptoSmall : (H : Type) → List (DataW H) → Bool := fun _ ds => decide (uptoBulkAll ds ≤ 1048576)
def OpenSpec.upto (s : _root_.Go.ChangeSpec) : _root_.Go.OpenSpec := { _root_.Go.OpenSpec.ofChange s with cond := some uptoSmall }

/-- 'humpyardlaw08.ReconcileLimits', WHERE WHAT IT READS IS OF BULK AT MOST 1048576: true; the input reads as it did. -/
def reconcileLimitsUptoRow : OpenClaim := { program := "ytbdiilkdajadcaadoor", sum := "17dd53665a76b45128f0b58e726082c909a5b4d66037a22871a911d92599d6e5", func := "humpyard/humpyardlaw08.ReconcileLimits", spec := "reconcileLimits", unfollowed := true, recurses := true, named := ["humpyard/reconcile.kinds"], apart := false, laid := [("humpyard/reconcile.kinds", laid_humpyard_reconcile_kinds)], narrowed := true }
def ReconcileLimitsUptoSaid : Prop := reconcileLimitsUptoRow.holds Tryd.pinned (OpenSpec.upto reconcileLimitsSpec)

/-- 'humpyardlaw08.ReconcileExact', WHERE WHAT IT READS IS OF BULK AT MOST 1048576: true; the input reads as it did. -/
def reconcileExactUptoRow : OpenClaim := { program := "ytbdiilkdajadcaadoor", sum := "17dd53665a76b45128f0b58e726082c909a5b4d66037a22871a911d92599d6e5", func := "humpyard/humpyardlaw08.ReconcileExact", spec := "reconcileExact", unfollowed := true, recurses := true, named := ["humpyard/reconcile.kinds"], apart := false, laid := [("humpyard/reconcile.kinds", laid_humpyard_reconcile_kinds)], narrowed := true }
def ReconcileExactUptoSaid : Prop := reconcileExactUptoRow.holds Tryd.pinned (OpenSpec.upto reconcileExactSpec)

/-- 'humpyardlaw08.ReconcileVerifies', WHERE WHAT IT READS IS OF BULK AT MOST 1048576: true; the input reads as it did. -/
def reconcileVerifiesUptoRow : OpenClaim := { program := "ytbdiilkdajadcaadoor", sum := "17dd53665a76b45128f0b58e726082c909a5b4d66037a22871a911d92599d6e5", func := "humpyard/humpyardlaw08.ReconcileVerifies", spec := "reconcileVerifies", unfollowed := true, recurses := true, named := ["humpyard/reconcile.kinds"], apart := false, laid := [("humpyard/reconcile.kinds", laid_humpyard_reconcile_kinds)], narrowed := true }
def ReconcileVerifiesUptoSaid : Prop := reconcileVerifiesUptoRow.holds Tryd.pinned (OpenSpec.upto reconcileVerifiesSpec)

/-- 'humpyardlaw08.ReconcileProof', WHERE WHAT IT READS IS OF BULK AT MOST 1048576: true; the input reads as it did. -/
def reconcileProofUptoRow : OpenClaim := { program := "ytbdiilkdajadcaadoor", sum := "17dd53665a76b45128f0b58e726082c909a5b4d66037a22871a911d92599d6e5", func := "humpyard/humpyardlaw08.ReconcileProof", spec := "reconcileProof", unfollowed := true, recurses := true, named := ["humpyard/reconcile.kinds"], apart := false, laid := [("humpyard/reconcile.kinds", laid_humpyard_reconcile_kinds)], narrowed := true }
def ReconcileProofUptoSaid : Prop := reconcileProofUptoRow.holds Tryd.pinned (OpenSpec.upto reconcileProofSpec)

/-- 'humpyardlaw08.ReconcileCheaper', WHERE WHAT IT READS IS OF BULK AT MOST 1048576: true; the input reads as it did. -/
def reconcileCheaperUptoRow : OpenClaim := { program := "ytbdiilkdajadcaadoor", sum := "17dd53665a76b45128f0b58e726082c909a5b4d66037a22871a911d92599d6e5", func := "humpyard/humpyardlaw08.ReconcileCheaper", spec := "reconcileCheaper", unfollowed := true, recurses := true, named := ["humpyard/reconcile.kinds"], apart := false, laid := [("humpyard/reconcile.kinds", laid_humpyard_reconcile_kinds)], narrowed := true }
def ReconcileCheaperUptoSaid : Prop := reconcileCheaperUptoRow.holds Tryd.pinned (OpenSpec.upto reconcileCheaperSpec)

/-- 'humpyardlaw08.ReconcileMetric', WHERE WHAT IT READS IS OF BULK AT MOST 1048576: true; the input reads as it did. -/
def reconcileMetricUptoRow : OpenClaim := { program := "ytbdiilkdajadcaadoor", sum := "17dd53665a76b45128f0b58e726082c909a5b4d66037a22871a911d92599d6e5", func := "humpyard/humpyardlaw08.ReconcileMetric", spec := "reconcileMetric", unfollowed := true, recurses := true, named := ["humpyard/reconcile.kinds"], apart := false, laid := [("humpyard/reconcile.kinds", laid_humpyard_reconcile_kinds)], narrowed := true }
def ReconcileMetricUptoSaid : Prop := reconcileMetricUptoRow.holds Tryd.pinned (OpenSpec.upto reconcileMetricSpec)

end Rows
end Go.Proofs.YtbdiilkdajadcaaDoor
