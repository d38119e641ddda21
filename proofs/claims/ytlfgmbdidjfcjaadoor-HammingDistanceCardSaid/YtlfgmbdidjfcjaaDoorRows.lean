/-
  NARROWER THAN 'FOR EVERY INPUT', by the rows' own cells (each row's printed sentence says how): HammingLimits: laid · HammingExact: laid · HammingCorrects: laid · HammingFinds: laid · HammingDistance: laid · HammingPacks: laid · HammingLost: laid.
  DERIVED. THE GIVEN ROWS OF THIS SEAT. 7 by the template 'for every input the law returns true; each argument reads behind the call as it read before'; 0 by the template 'total and deterministic' (their statements: YtlfgmbdidjfcjaaDoorTotals.lean).
  GIVEN WITH THE SEED: the statements are not yours to turn. If you find one false, say at which input.
  Laid BY PROGRAM, IN A SANDBOX (cutbox-rows.mjs): the forced cells as the released guide's own fill.sh prints them over the translation f02a76967a5ba37c… (all of the seat's roots in one cut). By AI agents, Wed Nov 11 2026. No macro, syntax, notation, axiom, sorry.
-/
import Derived.Test.YtlfgmbdidjfcjaaDoorChecked
import GoSem.Claim
import GoSem.ClaimJoined
import GoSem.ClaimMapViews
import Derived.JoinedTies
import Derived.KernelRfl
namespace Go.Proofs.YtlfgmbdidjfcjaaDoor
/- THE CELL 'sum', in the pinned program and in every row, IS THE sha256 OF THE DUMP (.gsa) THAT YtlfgmbdidjfcjaaDoorProg.lean LOADS. Nothing in Lean hashes anything: it is a label: what it is worth is what the hold of that sum in a sandbox is worth. -/
noncomputable def Tryd.pinned : Pinned := { name := "ytlfgmbdidjfcjaadoor", sum := "f02a76967a5ba37c73b9bf610d6aa305de26851d73ef59ab9ea6f10b367492ce", checked := Tryd.checked }
namespace Rows
def none {H : Type} : Left H := { results := [], args := [] }

/- WHAT THE LISTED PACKAGE-LEVEL VARIABLES READ AS WHEN THE CALL BEGINS. Each datum BY PROGRAM (the guide's laid-datum.mjs) off the statement by which the dump's own 'gosem.cut.vars' lays the variable. In a bare row this is a premise. The card (YtlfgmbdidjfcjaaDoorCards.lean) ties it to the program's text. -/
def laid_humpyard_hamming_dataBits {H : Type} : DataW H := .agg [.lit (.int .i64 3), .lit (.int .i64 5), .lit (.int .i64 6), .lit (.int .i64 7), .lit (.int .i64 9), .lit (.int .i64 10), .lit (.int .i64 11), .lit (.int .i64 12), .lit (.int .i64 13), .lit (.int .i64 14), .lit (.int .i64 15)]

/-- 'humpyardlaw03.HammingLimits': WHATEVER THE INPUT: true; the input reads as it did. -/
def hammingLimitsSpec : ChangeSpec := { name := "hammingLimits", fn := fun _ => fun
  | [d1, d2] => { results := [.lit (.bool true)], args := [d1, d2] }
  | _ => none }
def hammingLimitsRow : OpenClaim := { program := "ytlfgmbdidjfcjaadoor", sum := "f02a76967a5ba37c73b9bf610d6aa305de26851d73ef59ab9ea6f10b367492ce", func := "humpyard/humpyardlaw03.HammingLimits", spec := "hammingLimits", named := ["humpyard/hamming.dataBits"], apart := false, laid := [("humpyard/hamming.dataBits", laid_humpyard_hamming_dataBits)] }
def HammingLimitsSaid : Prop := hammingLimitsRow.holds Tryd.pinned (OpenSpec.ofChange hammingLimitsSpec)

/-- ITS FALSE NEIGHBOUR: 'it returns false'. Refute it at one input. -/
def hammingLimitsWrong : ChangeSpec := { name := "hammingLimits", fn := fun _ => fun
  | [d1, d2] => { results := [.lit (.bool false)], args := [d1, d2] }
  | _ => none }
def HammingLimitsWrongFalsely : Prop := hammingLimitsRow.holds Tryd.pinned (OpenSpec.ofChange hammingLimitsWrong)

/-- 'humpyardlaw03.HammingExact': WHATEVER THE INPUT: true; the input reads as it did. -/
def hammingExactSpec : ChangeSpec := { name := "hammingExact", fn := fun _ => fun
  | [d1, d2, d3, d4, d5] => { results := [.lit (.bool true)], args := [d1, d2, d3, d4, d5] }
  | _ => none }
def hammingExactRow : OpenClaim := { program := "ytlfgmbdidjfcjaadoor", sum := "f02a76967a5ba37c73b9bf610d6aa305de26851d73ef59ab9ea6f10b367492ce", func := "humpyard/humpyardlaw03.HammingExact", spec := "hammingExact", named := ["humpyard/hamming.dataBits"], apart := false, laid := [("humpyard/hamming.dataBits", laid_humpyard_hamming_dataBits)] }
def HammingExactSaid : Prop := hammingExactRow.holds Tryd.pinned (OpenSpec.ofChange hammingExactSpec)

/-- ITS FALSE NEIGHBOUR: 'it returns false'. Refute it at one input. -/
def hammingExactWrong : ChangeSpec := { name := "hammingExact", fn := fun _ => fun
  | [d1, d2, d3, d4, d5] => { results := [.lit (.bool false)], args := [d1, d2, d3, d4, d5] }
  | _ => none }
def HammingExactWrongFalsely : Prop := hammingExactRow.holds Tryd.pinned (OpenSpec.ofChange hammingExactWrong)

/-- 'humpyardlaw03.HammingCorrects': WHATEVER THE INPUT: true; the input reads as it did. -/
def hammingCorrectsSpec : ChangeSpec := { name := "hammingCorrects", fn := fun _ => fun
  | [d] => { results := [.lit (.bool true)], args := [d] }
  | _ => none }
def hammingCorrectsRow : OpenClaim := { program := "ytlfgmbdidjfcjaadoor", sum := "f02a76967a5ba37c73b9bf610d6aa305de26851d73ef59ab9ea6f10b367492ce", func := "humpyard/humpyardlaw03.HammingCorrects", spec := "hammingCorrects", named := ["humpyard/hamming.dataBits"], apart := false, laid := [("humpyard/hamming.dataBits", laid_humpyard_hamming_dataBits)] }
def HammingCorrectsSaid : Prop := hammingCorrectsRow.holds Tryd.pinned (OpenSpec.ofChange hammingCorrectsSpec)

/-- ITS FALSE NEIGHBOUR: 'it returns false'. Refute it at one input. -/
def hammingCorrectsWrong : ChangeSpec := { name := "hammingCorrects", fn := fun _ => fun
  | [d] => { results := [.lit (.bool false)], args := [d] }
  | _ => none }
def HammingCorrectsWrongFalsely : Prop := hammingCorrectsRow.holds Tryd.pinned (OpenSpec.ofChange hammingCorrectsWrong)

/-- 'humpyardlaw03.HammingFinds': WHATEVER THE INPUT: true; the input reads as it did. -/
def hammingFindsSpec : ChangeSpec := { name := "hammingFinds", fn := fun _ => fun
  | [d] => { results := [.lit (.bool true)], args := [d] }
  | _ => none }
def hammingFindsRow : OpenClaim := { program := "ytlfgmbdidjfcjaadoor", sum := "f02a76967a5ba37c73b9bf610d6aa305de26851d73ef59ab9ea6f10b367492ce", func := "humpyard/humpyardlaw03.HammingFinds", spec := "hammingFinds", named := ["humpyard/hamming.dataBits"], apart := false, laid := [("humpyard/hamming.dataBits", laid_humpyard_hamming_dataBits)] }
def HammingFindsSaid : Prop := hammingFindsRow.holds Tryd.pinned (OpenSpec.ofChange hammingFindsSpec)

/-- ITS FALSE NEIGHBOUR: 'it returns false'. Refute it at one input. -/
def hammingFindsWrong : ChangeSpec := { name := "hammingFinds", fn := fun _ => fun
  | [d] => { results := [.lit (.bool false)], args := [d] }
  | _ => none }
def HammingFindsWrongFalsely : Prop := hammingFindsRow.holds Tryd.pinned (OpenSpec.ofChange hammingFindsWrong)

/-- 'humpyardlaw03.HammingDistance': WHATEVER THE INPUT: true; the input reads as it did. -/
def hammingDistanceSpec : ChangeSpec := { name := "hammingDistance", fn := fun _ => fun
  | [d1, d2] => { results := [.lit (.bool true)], args := [d1, d2] }
  | _ => none }
def hammingDistanceRow : OpenClaim := { program := "ytlfgmbdidjfcjaadoor", sum := "f02a76967a5ba37c73b9bf610d6aa305de26851d73ef59ab9ea6f10b367492ce", func := "humpyard/humpyardlaw03.HammingDistance", spec := "hammingDistance", named := ["humpyard/hamming.dataBits"], apart := false, laid := [("humpyard/hamming.dataBits", laid_humpyard_hamming_dataBits)] }
def HammingDistanceSaid : Prop := hammingDistanceRow.holds Tryd.pinned (OpenSpec.ofChange hammingDistanceSpec)

/-- ITS FALSE NEIGHBOUR: 'it returns false'. Refute it at one input. -/
def hammingDistanceWrong : ChangeSpec := { name := "hammingDistance", fn := fun _ => fun
  | [d1, d2] => { results := [.lit (.bool false)], args := [d1, d2] }
  | _ => none }
def HammingDistanceWrongFalsely : Prop := hammingDistanceRow.holds Tryd.pinned (OpenSpec.ofChange hammingDistanceWrong)

/-- 'humpyardlaw03.HammingPacks': WHATEVER THE INPUT: true; the input reads as it did. -/
def hammingPacksSpec : ChangeSpec := { name := "hammingPacks", fn := fun _ => fun
  | [d1, d2] => { results := [.lit (.bool true)], args := [d1, d2] }
  | _ => none }
def hammingPacksRow : OpenClaim := { program := "ytlfgmbdidjfcjaadoor", sum := "f02a76967a5ba37c73b9bf610d6aa305de26851d73ef59ab9ea6f10b367492ce", func := "humpyard/humpyardlaw03.HammingPacks", spec := "hammingPacks", named := ["humpyard/hamming.dataBits"], apart := false, laid := [("humpyard/hamming.dataBits", laid_humpyard_hamming_dataBits)] }
def HammingPacksSaid : Prop := hammingPacksRow.holds Tryd.pinned (OpenSpec.ofChange hammingPacksSpec)

/-- ITS FALSE NEIGHBOUR: 'it returns false'. Refute it at one input. -/
def hammingPacksWrong : ChangeSpec := { name := "hammingPacks", fn := fun _ => fun
  | [d1, d2] => { results := [.lit (.bool false)], args := [d1, d2] }
  | _ => none }
def HammingPacksWrongFalsely : Prop := hammingPacksRow.holds Tryd.pinned (OpenSpec.ofChange hammingPacksWrong)

/-- 'humpyardlaw03.HammingLost': WHATEVER THE INPUT: true; the input reads as it did. -/
def hammingLostSpec : ChangeSpec := { name := "hammingLost", fn := fun _ => fun
  | [d1, d2, d3, d4] => { results := [.lit (.bool true)], args := [d1, d2, d3, d4] }
  | _ => none }
def hammingLostRow : OpenClaim := { program := "ytlfgmbdidjfcjaadoor", sum := "f02a76967a5ba37c73b9bf610d6aa305de26851d73ef59ab9ea6f10b367492ce", func := "humpyard/humpyardlaw03.HammingLost", spec := "hammingLost", named := ["humpyard/hamming.dataBits"], apart := false, laid := [("humpyard/hamming.dataBits", laid_humpyard_hamming_dataBits)] }
def HammingLostSaid : Prop := hammingLostRow.holds Tryd.pinned (OpenSpec.ofChange hammingLostSpec)

/-- ITS FALSE NEIGHBOUR: 'it returns false'. Refute it at one input. -/
def hammingLostWrong : ChangeSpec := { name := "hammingLost", fn := fun _ => fun
  | [d1, d2, d3, d4] => { results := [.lit (.bool false)], args := [d1, d2, d3, d4] }
  | _ => none }
def HammingLostWrongFalsely : Prop := hammingLostRow.holds Tryd.pinned (OpenSpec.ofChange hammingLostWrong)

/- THE SECOND FORM. 'bulk': how many values and letters a reading holds, each counted each time it is reached (what is shared counts as often as it is met; a slice's spare places count too). A statement '..UptoSaid' is the law's where the arguments, and the package variables that the reading takes, are together of bulk at most 1048576: NARROWER than '..Said'. Prove '..Said' where nothing that the law and all that it calls make is longer than what came in: it says more and counts as full. Else prove '..UptoSaid'. A law counts once. -/
mutual
def uptoBulk {H : Type} : DataW H → Nat
  | .lit (.string bytes) => bytes.length + 1
  | .lit _ => 1
  | .nil => 1
  | .ptr d => uptoBulk d + 1
  | .slice elems spare => uptoBulkAll elems + uptoBulkAll spare + 1
  | .agg parts => uptoBulkAll parts + 1
  | .iface _ d => uptoBulk d + 1
  | .map entries => uptoBulkEntries entries + 1
  | .held _ => 1
def uptoBulkAll {H : Type} : List (DataW H) → Nat
  | [] => 0
  | d :: r => uptoBulk d + uptoBulkAll r
def uptoBulkEntries {H : Type} : List (Lit × DataW H) → Nat
  | [] => 0
  | x :: r => uptoBulkEntry x + uptoBulkEntries r
def uptoBulkEntry {H : Type} : Lit × DataW H → Nat
  | (.string bytes, d) => bytes.length + uptoBulk d + 1
  | (_, d) => uptoBulk d + 1
 end
def uptoSmall : (H : Type) → List (DataW H) → Bool := fun _ ds => decide (uptoBulkAll ds ≤ 1048576)
def OpenSpec.upto (s : _root_.Go.ChangeSpec) : _root_.Go.OpenSpec := { _root_.Go.OpenSpec.ofChange s with cond := some uptoSmall }

/-- 'humpyardlaw03.HammingLimits', WHERE WHAT IT READS IS OF BULK AT MOST 1048576: true; the input reads as it did. -/
def hammingLimitsUptoRow : OpenClaim := { program := "ytlfgmbdidjfcjaadoor", sum := "f02a76967a5ba37c73b9bf610d6aa305de26851d73ef59ab9ea6f10b367492ce", func := "humpyard/humpyardlaw03.HammingLimits", spec := "hammingLimits", named := ["humpyard/hamming.dataBits"], apart := false, laid := [("humpyard/hamming.dataBits", laid_humpyard_hamming_dataBits)], narrowed := true }
def HammingLimitsUptoSaid : Prop := hammingLimitsUptoRow.holds Tryd.pinned (OpenSpec.upto hammingLimitsSpec)

/-- 'humpyardlaw03.HammingExact', WHERE WHAT IT READS IS OF BULK AT MOST 1048576: true; the input reads as it did. -/
def hammingExactUptoRow : OpenClaim := { program := "ytlfgmbdidjfcjaadoor", sum := "f02a76967a5ba37c73b9bf610d6aa305de26851d73ef59ab9ea6f10b367492ce", func := "humpyard/humpyardlaw03.HammingExact", spec := "hammingExact", named := ["humpyard/hamming.dataBits"], apart := false, laid := [("humpyard/hamming.dataBits", laid_humpyard_hamming_dataBits)], narrowed := true }
def HammingExactUptoSaid : Prop := hammingExactUptoRow.holds Tryd.pinned (OpenSpec.upto hammingExactSpec)

/-- 'humpyardlaw03.HammingCorrects', WHERE WHAT IT READS IS OF BULK AT MOST 1048576: true; the input reads as it did. -/
def hammingCorrectsUptoRow : OpenClaim := { program := "ytlfgmbdidjfcjaadoor", sum := "f02a76967a5ba37c73b9bf610d6aa305de26851d73ef59ab9ea6f10b367492ce", func := "humpyard/humpyardlaw03.HammingCorrects", spec := "hammingCorrects", named := ["humpyard/hamming.dataBits"], apart := false, laid := [("humpyard/hamming.dataBits", laid_humpyard_hamming_dataBits)], narrowed := true }
def HammingCorrectsUptoSaid : Prop := hammingCorrectsUptoRow.holds Tryd.pinned (OpenSpec.upto hammingCorrectsSpec)

/-- 'humpyardlaw03.HammingFinds', WHERE WHAT IT READS IS OF BULK AT MOST 1048576: true; the input reads as it did. -/
def hammingFindsUptoRow : OpenClaim := { program := "ytlfgmbdidjfcjaadoor", sum := "f02a76967a5ba37c73b9bf610d6aa305de26851d73ef59ab9ea6f10b367492ce", func := "humpyard/humpyardlaw03.HammingFinds", spec := "hammingFinds", named := ["humpyard/hamming.dataBits"], apart := false, laid := [("humpyard/hamming.dataBits", laid_humpyard_hamming_dataBits)], narrowed := true }
def HammingFindsUptoSaid : Prop := hammingFindsUptoRow.holds Tryd.pinned (OpenSpec.upto hammingFindsSpec)

/-- 'humpyardlaw03.HammingDistance', WHERE WHAT IT READS IS OF BULK AT MOST 1048576: true; the input reads as it did. -/
def hammingDistanceUptoRow : OpenClaim := { program := "ytlfgmbdidjfcjaadoor", sum := "f02a76967a5ba37c73b9bf610d6aa305de26851d73ef59ab9ea6f10b367492ce", func := "humpyard/humpyardlaw03.HammingDistance", spec := "hammingDistance", named := ["humpyard/hamming.dataBits"], apart := false, laid := [("humpyard/hamming.dataBits", laid_humpyard_hamming_dataBits)], narrowed := true }
def HammingDistanceUptoSaid : Prop := hammingDistanceUptoRow.holds Tryd.pinned (OpenSpec.upto hammingDistanceSpec)

/-- 'humpyardlaw03.HammingPacks', WHERE WHAT IT READS IS OF BULK AT MOST 1048576: true; the input reads as it did. -/
def hammingPacksUptoRow : OpenClaim := { program := "ytlfgmbdidjfcjaadoor", sum := "f02a76967a5ba37c73b9bf610d6aa305de26851d73ef59ab9ea6f10b367492ce", func := "humpyard/humpyardlaw03.HammingPacks", spec := "hammingPacks", named := ["humpyard/hamming.dataBits"], apart := false, laid := [("humpyard/hamming.dataBits", laid_humpyard_hamming_dataBits)], narrowed := true }
def HammingPacksUptoSaid : Prop := hammingPacksUptoRow.holds Tryd.pinned (OpenSpec.upto hammingPacksSpec)

/-- 'humpyardlaw03.HammingLost', WHERE WHAT IT READS IS OF BULK AT MOST 1048576: true; the input reads as it did. -/
def hammingLostUptoRow : OpenClaim := { program := "ytlfgmbdidjfcjaadoor", sum := "f02a76967a5ba37c73b9bf610d6aa305de26851d73ef59ab9ea6f10b367492ce", func := "humpyard/humpyardlaw03.HammingLost", spec := "hammingLost", named := ["humpyard/hamming.dataBits"], apart := false, laid := [("humpyard/hamming.dataBits", laid_humpyard_hamming_dataBits)], narrowed := true }
def HammingLostUptoSaid : Prop := hammingLostUptoRow.holds Tryd.pinned (OpenSpec.upto hammingLostSpec)

end Rows
end Go.Proofs.YtlfgmbdidjfcjaaDoor
