/-
  NARROWER THAN 'FOR EVERY INPUT', by the rows' own cells (each row's printed sentence says how): DetectorLimits: laid · DetectorExact: laid · DetectorOneBit: laid · DetectorLoss: laid · DetectorJoins: laid · DetectorShort: laid.
  DERIVED. THE GIVEN ROWS OF THIS SEAT. 6 by the template 'for every input the law returns true; each argument reads behind the call as it read before'; 0 by the template 'total and deterministic' (their statements: YtbpgbdnfoofnaaaDoorTotals.lean).
  GIVEN WITH THE SEED: the statements are not yours to turn. If you find one false, say at which input.
  Laid BY PROGRAM, IN A SANDBOX (cutbox-rows.mjs): the forced cells as the released guide's own fill.sh prints them over the translation f33eb3481bb6202a… (all of the seat's roots in one cut). By AI agents, Wed Nov 11 2026. No macro, syntax, notation, axiom, sorry.
-/
import Derived.Test.YtbpgbdnfoofnaaaDoorChecked
import GoSem.Claim
import GoSem.ClaimJoined
import GoSem.ClaimMapViews
import Derived.JoinedTies
import Derived.KernelRfl
namespace Go.Proofs.YtbpgbdnfoofnaaaDoor
/- THE CELL 'sum', in the pinned program and in every row, IS THE sha256 OF THE DUMP (.gsa) THAT YtbpgbdnfoofnaaaDoorProg.lean LOADS. Nothing in Lean hashes anything: it is a label: what it is worth is what the hold of that sum in a sandbox is worth. -/
noncomputable def Tryd.pinned : Pinned := { name := "ytbpgbdnfoofnaaadoor", sum := "f33eb3481bb6202a7f2a759bb3f58b04d10950082d1b2468a86c14dcf98176ad", checked := Tryd.checked }
namespace Rows
def none {H : Type} : Left H := { results := [], args := [] }

/- WHAT THE LISTED PACKAGE-LEVEL VARIABLES READ AS WHEN THE CALL BEGINS. Each datum BY PROGRAM (the guide's laid-datum.mjs) off the statement by which the dump's own 'gosem.cut.vars' lays the variable. In a bare row this is a premise. The card (YtbpgbdnfoofnaaaDoorCards.lean) ties it to the program's text. -/
def laid_humpyard_hamming_dataBits {H : Type} : DataW H := .agg [.lit (.int .i64 3), .lit (.int .i64 5), .lit (.int .i64 6), .lit (.int .i64 7), .lit (.int .i64 9), .lit (.int .i64 10), .lit (.int .i64 11), .lit (.int .i64 12), .lit (.int .i64 13), .lit (.int .i64 14), .lit (.int .i64 15)]

/-- 'humpyardlaw04.DetectorLimits': WHATEVER THE INPUT: true; the input reads as it did. -/
def detectorLimitsSpec : ChangeSpec := { name := "detectorLimits", fn := fun _ => fun
  | [d1, d2] => { results := [.lit (.bool true)], args := [d1, d2] }
  | _ => none }
def detectorLimitsRow : OpenClaim := { program := "ytbpgbdnfoofnaaadoor", sum := "f33eb3481bb6202a7f2a759bb3f58b04d10950082d1b2468a86c14dcf98176ad", func := "humpyard/humpyardlaw04.DetectorLimits", spec := "detectorLimits", named := ["humpyard/hamming.dataBits"], apart := false, laid := [("humpyard/hamming.dataBits", laid_humpyard_hamming_dataBits)] }
def DetectorLimitsSaid : Prop := detectorLimitsRow.holds Tryd.pinned (OpenSpec.ofChange detectorLimitsSpec)

/-- ITS FALSE NEIGHBOUR: 'it returns false'. Refute it at one input. -/
def detectorLimitsWrong : ChangeSpec := { name := "detectorLimits", fn := fun _ => fun
  | [d1, d2] => { results := [.lit (.bool false)], args := [d1, d2] }
  | _ => none }
def DetectorLimitsWrongFalsely : Prop := detectorLimitsRow.holds Tryd.pinned (OpenSpec.ofChange detectorLimitsWrong)

/-- 'humpyardlaw04.DetectorExact': WHATEVER THE INPUT: true; the input reads as it did. -/
def detectorExactSpec : ChangeSpec := { name := "detectorExact", fn := fun _ => fun
  | [d1, d2, d3] => { results := [.lit (.bool true)], args := [d1, d2, d3] }
  | _ => none }
def detectorExactRow : OpenClaim := { program := "ytbpgbdnfoofnaaadoor", sum := "f33eb3481bb6202a7f2a759bb3f58b04d10950082d1b2468a86c14dcf98176ad", func := "humpyard/humpyardlaw04.DetectorExact", spec := "detectorExact", named := ["humpyard/hamming.dataBits"], apart := false, laid := [("humpyard/hamming.dataBits", laid_humpyard_hamming_dataBits)] }
def DetectorExactSaid : Prop := detectorExactRow.holds Tryd.pinned (OpenSpec.ofChange detectorExactSpec)

/-- ITS FALSE NEIGHBOUR: 'it returns false'. Refute it at one input. -/
def detectorExactWrong : ChangeSpec := { name := "detectorExact", fn := fun _ => fun
  | [d1, d2, d3] => { results := [.lit (.bool false)], args := [d1, d2, d3] }
  | _ => none }
def DetectorExactWrongFalsely : Prop := detectorExactRow.holds Tryd.pinned (OpenSpec.ofChange detectorExactWrong)

/-- 'humpyardlaw04.DetectorOneBit': WHATEVER THE INPUT: true; the input reads as it did. -/
def detectorOneBitSpec : ChangeSpec := { name := "detectorOneBit", fn := fun _ => fun
  | [d1, d2] => { results := [.lit (.bool true)], args := [d1, d2] }
  | _ => none }
def detectorOneBitRow : OpenClaim := { program := "ytbpgbdnfoofnaaadoor", sum := "f33eb3481bb6202a7f2a759bb3f58b04d10950082d1b2468a86c14dcf98176ad", func := "humpyard/humpyardlaw04.DetectorOneBit", spec := "detectorOneBit", named := ["humpyard/hamming.dataBits"], apart := false, laid := [("humpyard/hamming.dataBits", laid_humpyard_hamming_dataBits)] }
def DetectorOneBitSaid : Prop := detectorOneBitRow.holds Tryd.pinned (OpenSpec.ofChange detectorOneBitSpec)

/-- ITS FALSE NEIGHBOUR: 'it returns false'. Refute it at one input. -/
def detectorOneBitWrong : ChangeSpec := { name := "detectorOneBit", fn := fun _ => fun
  | [d1, d2] => { results := [.lit (.bool false)], args := [d1, d2] }
  | _ => none }
def DetectorOneBitWrongFalsely : Prop := detectorOneBitRow.holds Tryd.pinned (OpenSpec.ofChange detectorOneBitWrong)

/-- 'humpyardlaw04.DetectorLoss': WHATEVER THE INPUT: true; the input reads as it did. -/
def detectorLossSpec : ChangeSpec := { name := "detectorLoss", fn := fun _ => fun
  | [d1, d2, d3, d4] => { results := [.lit (.bool true)], args := [d1, d2, d3, d4] }
  | _ => none }
def detectorLossRow : OpenClaim := { program := "ytbpgbdnfoofnaaadoor", sum := "f33eb3481bb6202a7f2a759bb3f58b04d10950082d1b2468a86c14dcf98176ad", func := "humpyard/humpyardlaw04.DetectorLoss", spec := "detectorLoss", named := ["humpyard/hamming.dataBits"], apart := false, laid := [("humpyard/hamming.dataBits", laid_humpyard_hamming_dataBits)] }
def DetectorLossSaid : Prop := detectorLossRow.holds Tryd.pinned (OpenSpec.ofChange detectorLossSpec)

/-- ITS FALSE NEIGHBOUR: 'it returns false'. Refute it at one input. -/
def detectorLossWrong : ChangeSpec := { name := "detectorLoss", fn := fun _ => fun
  | [d1, d2, d3, d4] => { results := [.lit (.bool false)], args := [d1, d2, d3, d4] }
  | _ => none }
def DetectorLossWrongFalsely : Prop := detectorLossRow.holds Tryd.pinned (OpenSpec.ofChange detectorLossWrong)

/-- 'humpyardlaw04.DetectorJoins': WHATEVER THE INPUT: true; the input reads as it did. -/
def detectorJoinsSpec : ChangeSpec := { name := "detectorJoins", fn := fun _ => fun
  | [d] => { results := [.lit (.bool true)], args := [d] }
  | _ => none }
def detectorJoinsRow : OpenClaim := { program := "ytbpgbdnfoofnaaadoor", sum := "f33eb3481bb6202a7f2a759bb3f58b04d10950082d1b2468a86c14dcf98176ad", func := "humpyard/humpyardlaw04.DetectorJoins", spec := "detectorJoins", named := ["humpyard/hamming.dataBits"], apart := false, laid := [("humpyard/hamming.dataBits", laid_humpyard_hamming_dataBits)] }
def DetectorJoinsSaid : Prop := detectorJoinsRow.holds Tryd.pinned (OpenSpec.ofChange detectorJoinsSpec)

/-- ITS FALSE NEIGHBOUR: 'it returns false'. Refute it at one input. -/
def detectorJoinsWrong : ChangeSpec := { name := "detectorJoins", fn := fun _ => fun
  | [d] => { results := [.lit (.bool false)], args := [d] }
  | _ => none }
def DetectorJoinsWrongFalsely : Prop := detectorJoinsRow.holds Tryd.pinned (OpenSpec.ofChange detectorJoinsWrong)

/-- 'humpyardlaw04.DetectorShort': WHATEVER THE INPUT: true; the input reads as it did. -/
def detectorShortSpec : ChangeSpec := { name := "detectorShort", fn := fun _ => fun
  | [d] => { results := [.lit (.bool true)], args := [d] }
  | _ => none }
def detectorShortRow : OpenClaim := { program := "ytbpgbdnfoofnaaadoor", sum := "f33eb3481bb6202a7f2a759bb3f58b04d10950082d1b2468a86c14dcf98176ad", func := "humpyard/humpyardlaw04.DetectorShort", spec := "detectorShort", named := ["humpyard/hamming.dataBits"], apart := false, laid := [("humpyard/hamming.dataBits", laid_humpyard_hamming_dataBits)] }
def DetectorShortSaid : Prop := detectorShortRow.holds Tryd.pinned (OpenSpec.ofChange detectorShortSpec)

/-- ITS FALSE NEIGHBOUR: 'it returns false'. Refute it at one input. -/
def detectorShortWrong : ChangeSpec := { name := "detectorShort", fn := fun _ => fun
  | [d] => { results := [.lit (.bool false)], args := [d] }
  | _ => none }
def DetectorShortWrongFalsely : Prop := detectorShortRow.holds Tryd.pinned (OpenSpec.ofChange detectorShortWrong)

/- THE SECOND FORM. 'bulk': how many values and letters a reading holds, each counted each time it is reached (what is shared counts as often as it is met; a slice's spare places count too). A statement '..UptoSaid' is the law's where the arguments, and the package variables that the reading takes, are together of bulk at most 1048576: NARROWER than '..Said'. Prove '..Said' where nothing that the law and all that it calls make is longer than what came in: it says more and counts as full. Else prove '..UptoSaid'. A law counts once. -/
mutual
def uptoBulk {H : Type} : DataW H → Nat
  | .lit (.string bytes) => bytes.length + 1
  | .lit _ => 1
  | .nil => 1
  | .ptr d => uptoBulk d + 1
  | .slice elems spare => uptoBulkAll elems + uptoBulkAll spare + 1
  | .agg parts => uptoBulkAll parts + 1
  | .iface _ d => uptoBulk d + 1
  | .map entries => uptoBulkEntries entries + 1
  | .held _ => 1
def uptoBulkAll {H : Type} : List (DataW H) → Nat
  | [] => 0
  | d :: r => uptoBulk d + uptoBulkAll r
def uptoBulkEntries {H : Type} : List (Lit × DataW H) → Nat
  | [] => 0
  | x :: r => uptoBulkEntry x + uptoBulkEntries r
def uptoBulkEntry {H : Type} : Lit × DataW H → Nat
  | (.string bytes, d) => bytes.length + uptoBulk d + 1
  | (_, d) => uptoBulk d + 1
 end
def uptoSmall : (H : Type) → List (DataW H) → Bool := fun _ ds => decide (uptoBulkAll ds ≤ 1048576)
def OpenSpec.upto (s : _root_.Go.ChangeSpec) : _root_.Go.OpenSpec := { _root_.Go.OpenSpec.ofChange s with cond := some uptoSmall }

/-- 'humpyardlaw04.DetectorLimits', WHERE WHAT IT READS IS OF BULK AT MOST 1048576: true; the input reads as it did. -/
def detectorLimitsUptoRow : OpenClaim := { program := "ytbpgbdnfoofnaaadoor", sum := "f33eb3481bb6202a7f2a759bb3f58b04d10950082d1b2468a86c14dcf98176ad", func := "humpyard/humpyardlaw04.DetectorLimits", spec := "detectorLimits", named := ["humpyard/hamming.dataBits"], apart := false, laid := [("humpyard/hamming.dataBits", laid_humpyard_hamming_dataBits)], narrowed := true }
def DetectorLimitsUptoSaid : Prop := detectorLimitsUptoRow.holds Tryd.pinned (OpenSpec.upto detectorLimitsSpec)

/-- 'humpyardlaw04.DetectorExact', WHERE WHAT IT READS IS OF BULK AT MOST 1048576: true; the input reads as it did. -/
def detectorExactUptoRow : OpenClaim := { program := "ytbpgbdnfoofnaaadoor", sum := "f33eb3481bb6202a7f2a759bb3f58b04d10950082d1b2468a86c14dcf98176ad", func := "humpyard/humpyardlaw04.DetectorExact", spec := "detectorExact", named := ["humpyard/hamming.dataBits"], apart := false, laid := [("humpyard/hamming.dataBits", laid_humpyard_hamming_dataBits)], narrowed := true }
def DetectorExactUptoSaid : Prop := detectorExactUptoRow.holds Tryd.pinned (OpenSpec.upto detectorExactSpec)

/-- 'humpyardlaw04.DetectorOneBit', WHERE WHAT IT READS IS OF BULK AT MOST 1048576: true; the input reads as it did. -/
def detectorOneBitUptoRow : OpenClaim := { program := "ytbpgbdnfoofnaaadoor", sum := "f33eb3481bb6202a7f2a759bb3f58b04d10950082d1b2468a86c14dcf98176ad", func := "humpyard/humpyardlaw04.DetectorOneBit", spec := "detectorOneBit", named := ["humpyard/hamming.dataBits"], apart := false, laid := [("humpyard/hamming.dataBits", laid_humpyard_hamming_dataBits)], narrowed := true }
def DetectorOneBitUptoSaid : Prop := detectorOneBitUptoRow.holds Tryd.pinned (OpenSpec.upto detectorOneBitSpec)

/-- 'humpyardlaw04.DetectorLoss', WHERE WHAT IT READS IS OF BULK AT MOST 1048576: true; the input reads as it did. -/
def detectorLossUptoRow : OpenClaim := { program := "ytbpgbdnfoofnaaadoor", sum := "f33eb3481bb6202a7f2a759bb3f58b04d10950082d1b2468a86c14dcf98176ad", func := "humpyard/humpyardlaw04.DetectorLoss", spec := "detectorLoss", named := ["humpyard/hamming.dataBits"], apart := false, laid := [("humpyard/hamming.dataBits", laid_humpyard_hamming_dataBits)], narrowed := true }
def DetectorLossUptoSaid : Prop := detectorLossUptoRow.holds Tryd.pinned (OpenSpec.upto detectorLossSpec)

/-- 'humpyardlaw04.DetectorJoins', WHERE WHAT IT READS IS OF BULK AT MOST 1048576: true; the input reads as it did. -/
def detectorJoinsUptoRow : OpenClaim := { program := "ytbpgbdnfoofnaaadoor", sum := "f33eb3481bb6202a7f2a759bb3f58b04d10950082d1b2468a86c14dcf98176ad", func := "humpyard/humpyardlaw04.DetectorJoins", spec := "detectorJoins", named := ["humpyard/hamming.dataBits"], apart := false, laid := [("humpyard/hamming.dataBits", laid_humpyard_hamming_dataBits)], narrowed := true }
def DetectorJoinsUptoSaid : Prop := detectorJoinsUptoRow.holds Tryd.pinned (OpenSpec.upto detectorJoinsSpec)

/-- 'humpyardlaw04.DetectorShort', WHERE WHAT IT READS IS OF BULK AT MOST 1048576: true; the input reads as it did. -/
def detectorShortUptoRow : OpenClaim := { program := "ytbpgbdnfoofnaaadoor", sum := "f33eb3481bb6202a7f2a759bb3f58b04d10950082d1b2468a86c14dcf98176ad", func := "humpyard/humpyardlaw04.DetectorShort", spec := "detectorShort", named := ["humpyard/hamming.dataBits"], apart := false, laid := [("humpyard/hamming.dataBits", laid_humpyard_hamming_dataBits)], narrowed := true }
def DetectorShortUptoSaid : Prop := detectorShortUptoRow.holds Tryd.pinned (OpenSpec.upto detectorShortSpec)

end Rows
end Go.Proofs.YtbpgbdnfoofnaaaDoor
