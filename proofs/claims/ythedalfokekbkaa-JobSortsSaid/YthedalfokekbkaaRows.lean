/-
  No cell of these rows narrows 'for every input' (looked for: loops, veiled, ifaces, maps, wideKeys, modest, calm, conditions, laid).
  DERIVED. THE GIVEN ROWS OF THIS SEAT. 7 by the template 'for every input the law returns true; each argument reads behind the call as it read before'; 0 by the template 'total and deterministic' (their statements: YthedalfokekbkaaTotals.lean).
  GIVEN WITH THE SEED: the statements are not yours to turn. If you find one false, say at which input.
  Laid BY PROGRAM, IN A SANDBOX (cutbox-rows.mjs): the forced cells as the released guide's own fill.sh prints them over the translation 2bf0c17bb0d08aca… (all of the seat's roots in one cut). By AI agents, Wed Nov 11 2026. No macro, syntax, notation, axiom, sorry.
-/
import Derived.Test.YthedalfokekbkaaChecked
import GoSem.Claim
import GoSem.ClaimJoined
import GoSem.ClaimMapViews
import Derived.JoinedTies
import Derived.KernelRfl
namespace Go.Proofs.Ythedalfokekbkaa
/- THE CELL 'sum', in the pinned program and in every row, IS THE sha256 OF THE DUMP (.gsa) THAT YthedalfokekbkaaProg.lean LOADS. Nothing in Lean hashes anything: it is a label: what it is worth is what the hold of that sum in a sandbox is worth. -/
noncomputable def Try.pinned : Pinned := { name := "ythedalfokekbkaa", sum := "2bf0c17bb0d08acad831de4310484e8089de9dde0defe952daa469db6e99d027", checked := Try.checked }
namespace Rows
def none {H : Type} : Left H := { results := [], args := [] }

/-- 'humpyardlaw11.JobLimits': WHATEVER THE INPUT: true; the input reads as it did. -/
def jobLimitsSpec : ChangeSpec := { name := "jobLimits", fn := fun _ => fun
  | [d1, d2] => { results := [.lit (.bool true)], args := [d1, d2] }
  | _ => none }
def jobLimitsRow : OpenClaim := { program := "ythedalfokekbkaa", sum := "2bf0c17bb0d08acad831de4310484e8089de9dde0defe952daa469db6e99d027", func := "humpyard/humpyardlaw11.JobLimits", spec := "jobLimits", unfollowed := true, recurses := true, apart := false }
def JobLimitsSaid : Prop := jobLimitsRow.holds Try.pinned (OpenSpec.ofChange jobLimitsSpec)

/-- ITS FALSE NEIGHBOUR: 'it returns false'. Refute it at one input. -/
def jobLimitsWrong : ChangeSpec := { name := "jobLimits", fn := fun _ => fun
  | [d1, d2] => { results := [.lit (.bool false)], args := [d1, d2] }
  | _ => none }
def JobLimitsWrongFalsely : Prop := jobLimitsRow.holds Try.pinned (OpenSpec.ofChange jobLimitsWrong)

/-- 'humpyardlaw11.JobExact': WHATEVER THE INPUT: true; the input reads as it did. -/
def jobExactSpec : ChangeSpec := { name := "jobExact", fn := fun _ => fun
  | [d1, d2, d3, d4, d5] => { results := [.lit (.bool true)], args := [d1, d2, d3, d4, d5] }
  | _ => none }
def jobExactRow : OpenClaim := { program := "ythedalfokekbkaa", sum := "2bf0c17bb0d08acad831de4310484e8089de9dde0defe952daa469db6e99d027", func := "humpyard/humpyardlaw11.JobExact", spec := "jobExact", unfollowed := true, recurses := true, apart := false }
def JobExactSaid : Prop := jobExactRow.holds Try.pinned (OpenSpec.ofChange jobExactSpec)

/-- ITS FALSE NEIGHBOUR: 'it returns false'. Refute it at one input. -/
def jobExactWrong : ChangeSpec := { name := "jobExact", fn := fun _ => fun
  | [d1, d2, d3, d4, d5] => { results := [.lit (.bool false)], args := [d1, d2, d3, d4, d5] }
  | _ => none }
def JobExactWrongFalsely : Prop := jobExactRow.holds Try.pinned (OpenSpec.ofChange jobExactWrong)

/-- 'humpyardlaw11.JobChain': WHATEVER THE INPUT: true; the input reads as it did. -/
def jobChainSpec : ChangeSpec := { name := "jobChain", fn := fun _ => fun
  | [d] => { results := [.lit (.bool true)], args := [d] }
  | _ => none }
def jobChainRow : OpenClaim := { program := "ythedalfokekbkaa", sum := "2bf0c17bb0d08acad831de4310484e8089de9dde0defe952daa469db6e99d027", func := "humpyard/humpyardlaw11.JobChain", spec := "jobChain", unfollowed := true, recurses := true, apart := false }
def JobChainSaid : Prop := jobChainRow.holds Try.pinned (OpenSpec.ofChange jobChainSpec)

/-- ITS FALSE NEIGHBOUR: 'it returns false'. Refute it at one input. -/
def jobChainWrong : ChangeSpec := { name := "jobChain", fn := fun _ => fun
  | [d] => { results := [.lit (.bool false)], args := [d] }
  | _ => none }
def JobChainWrongFalsely : Prop := jobChainRow.holds Try.pinned (OpenSpec.ofChange jobChainWrong)

/-- 'humpyardlaw11.JobLevels': WHATEVER THE INPUT: true; the input reads as it did. -/
def jobLevelsSpec : ChangeSpec := { name := "jobLevels", fn := fun _ => fun
  | [d] => { results := [.lit (.bool true)], args := [d] }
  | _ => none }
def jobLevelsRow : OpenClaim := { program := "ythedalfokekbkaa", sum := "2bf0c17bb0d08acad831de4310484e8089de9dde0defe952daa469db6e99d027", func := "humpyard/humpyardlaw11.JobLevels", spec := "jobLevels", unfollowed := true, recurses := true, apart := false }
def JobLevelsSaid : Prop := jobLevelsRow.holds Try.pinned (OpenSpec.ofChange jobLevelsSpec)

/-- ITS FALSE NEIGHBOUR: 'it returns false'. Refute it at one input. -/
def jobLevelsWrong : ChangeSpec := { name := "jobLevels", fn := fun _ => fun
  | [d] => { results := [.lit (.bool false)], args := [d] }
  | _ => none }
def JobLevelsWrongFalsely : Prop := jobLevelsRow.holds Try.pinned (OpenSpec.ofChange jobLevelsWrong)

/-- 'humpyardlaw11.JobFlat': WHATEVER THE INPUT: true; the input reads as it did. -/
def jobFlatSpec : ChangeSpec := { name := "jobFlat", fn := fun _ => fun
  | [d] => { results := [.lit (.bool true)], args := [d] }
  | _ => none }
def jobFlatRow : OpenClaim := { program := "ythedalfokekbkaa", sum := "2bf0c17bb0d08acad831de4310484e8089de9dde0defe952daa469db6e99d027", func := "humpyard/humpyardlaw11.JobFlat", spec := "jobFlat", unfollowed := true, recurses := true, apart := false }
def JobFlatSaid : Prop := jobFlatRow.holds Try.pinned (OpenSpec.ofChange jobFlatSpec)

/-- ITS FALSE NEIGHBOUR: 'it returns false'. Refute it at one input. -/
def jobFlatWrong : ChangeSpec := { name := "jobFlat", fn := fun _ => fun
  | [d] => { results := [.lit (.bool false)], args := [d] }
  | _ => none }
def JobFlatWrongFalsely : Prop := jobFlatRow.holds Try.pinned (OpenSpec.ofChange jobFlatWrong)

/-- 'humpyardlaw11.JobSorts': WHATEVER THE INPUT: true; the input reads as it did. -/
def jobSortsSpec : ChangeSpec := { name := "jobSorts", fn := fun _ => fun
  | [d] => { results := [.lit (.bool true)], args := [d] }
  | _ => none }
def jobSortsRow : OpenClaim := { program := "ythedalfokekbkaa", sum := "2bf0c17bb0d08acad831de4310484e8089de9dde0defe952daa469db6e99d027", func := "humpyard/humpyardlaw11.JobSorts", spec := "jobSorts", unfollowed := true, recurses := true, apart := false }
def JobSortsSaid : Prop := jobSortsRow.holds Try.pinned (OpenSpec.ofChange jobSortsSpec)

/-- ITS FALSE NEIGHBOUR: 'it returns false'. Refute it at one input. -/
def jobSortsWrong : ChangeSpec := { name := "jobSorts", fn := fun _ => fun
  | [d] => { results := [.lit (.bool false)], args := [d] }
  | _ => none }
def JobSortsWrongFalsely : Prop := jobSortsRow.holds Try.pinned (OpenSpec.ofChange jobSortsWrong)

/-- 'humpyardlaw11.JobTrains': WHATEVER THE INPUT: true; the input reads as it did. -/
def jobTrainsSpec : ChangeSpec := { name := "jobTrains", fn := fun _ => fun
  | [d] => { results := [.lit (.bool true)], args := [d] }
  | _ => none }
def jobTrainsRow : OpenClaim := { program := "ythedalfokekbkaa", sum := "2bf0c17bb0d08acad831de4310484e8089de9dde0defe952daa469db6e99d027", func := "humpyard/humpyardlaw11.JobTrains", spec := "jobTrains", unfollowed := true, recurses := true, apart := false }
def JobTrainsSaid : Prop := jobTrainsRow.holds Try.pinned (OpenSpec.ofChange jobTrainsSpec)

/-- ITS FALSE NEIGHBOUR: 'it returns false'. Refute it at one input. -/
def jobTrainsWrong : ChangeSpec := { name := "jobTrains", fn := fun _ => fun
  | [d] => { results := [.lit (.bool false)], args := [d] }
  | _ => none }
def JobTrainsWrongFalsely : Prop := jobTrainsRow.holds Try.pinned (OpenSpec.ofChange jobTrainsWrong)

/- THE SECOND FORM. 'bulk': how many values and letters a reading holds, each counted each time it is reached (what is shared counts as often as it is met; a slice's spare places count too). A statement '..UptoSaid' is the law's where the arguments, and the package variables that the reading takes, are together of bulk at most 1048576: NARROWER than '..Said'. Prove '..Said' where nothing that the law and all that it calls make is longer than what came in: it says more and counts as full. Else prove '..UptoSaid'. A law counts once. -/
mutual
def uptoBulk {H : Type} : DataW H → Nat
  | .lit (.string bytes) => bytes.length + 1
  | .lit _ => 1
  | .nil => 1
  | .ptr d => uptoBulk d + 1
  | .slice elems spare => uptoBulkAll elems + uptoBulkAll spare + 1
  | .agg parts => uptoBulkAll parts + 1
  | .iface _ d => uptoBulk d + 1
  | .map entries => uptoBulkEntries entries + 1
  | .held _ => 1
def uptoBulkAll {H : Type} : List (DataW H) → Nat
  | [] => 0
  | d :: r => uptoBulk d + uptoBulkAll r
def uptoBulkEntries {H : Type} : List (Lit × DataW H) → Nat
  | [] => 0
  | x :: r => uptoBulkEntry x + uptoBulkEntries r
def uptoBulkEntry {H : Type} : Lit × DataW H → Nat
  | (.string bytes, d) => bytes.length + uptoBulk d + 1
  | (_, d) => uptoBulk d + 1
 end
def uptoSmall : (H : Type) → List (DataW H) → Bool := fun _ ds => decide (uptoBulkAll ds ≤ 1048576)
def OpenSpec.upto (s : _root_.Go.ChangeSpec) : _root_.Go.OpenSpec := { _root_.Go.OpenSpec.ofChange s with cond := some uptoSmall }

/-- 'humpyardlaw11.JobLimits', WHERE WHAT IT READS IS OF BULK AT MOST 1048576: true; the input reads as it did. -/
def jobLimitsUptoRow : OpenClaim := { program := "ythedalfokekbkaa", sum := "2bf0c17bb0d08acad831de4310484e8089de9dde0defe952daa469db6e99d027", func := "humpyard/humpyardlaw11.JobLimits", spec := "jobLimits", unfollowed := true, recurses := true, apart := false, narrowed := true }
def JobLimitsUptoSaid : Prop := jobLimitsUptoRow.holds Try.pinned (OpenSpec.upto jobLimitsSpec)

/-- 'humpyardlaw11.JobExact', WHERE WHAT IT READS IS OF BULK AT MOST 1048576: true; the input reads as it did. -/
def jobExactUptoRow : OpenClaim := { program := "ythedalfokekbkaa", sum := "2bf0c17bb0d08acad831de4310484e8089de9dde0defe952daa469db6e99d027", func := "humpyard/humpyardlaw11.JobExact", spec := "jobExact", unfollowed := true, recurses := true, apart := false, narrowed := true }
def JobExactUptoSaid : Prop := jobExactUptoRow.holds Try.pinned (OpenSpec.upto jobExactSpec)

/-- 'humpyardlaw11.JobChain', WHERE WHAT IT READS IS OF BULK AT MOST 1048576: true; the input reads as it did. -/
def jobChainUptoRow : OpenClaim := { program := "ythedalfokekbkaa", sum := "2bf0c17bb0d08acad831de4310484e8089de9dde0defe952daa469db6e99d027", func := "humpyard/humpyardlaw11.JobChain", spec := "jobChain", unfollowed := true, recurses := true, apart := false, narrowed := true }
def JobChainUptoSaid : Prop := jobChainUptoRow.holds Try.pinned (OpenSpec.upto jobChainSpec)

/-- 'humpyardlaw11.JobLevels', WHERE WHAT IT READS IS OF BULK AT MOST 1048576: true; the input reads as it did. -/
def jobLevelsUptoRow : OpenClaim := { program := "ythedalfokekbkaa", sum := "2bf0c17bb0d08acad831de4310484e8089de9dde0defe952daa469db6e99d027", func := "humpyard/humpyardlaw11.JobLevels", spec := "jobLevels", unfollowed := true, recurses := true, apart := false, narrowed := true }
def JobLevelsUptoSaid : Prop := jobLevelsUptoRow.holds Try.pinned (OpenSpec.upto jobLevelsSpec)

/-- 'humpyardlaw11.JobFlat', WHERE WHAT IT READS IS OF BULK AT MOST 1048576: true; the input reads as it did. -/
def jobFlatUptoRow : OpenClaim := { program := "ythedalfokekbkaa", sum := "2bf0c17bb0d08acad831de4310484e8089de9dde0defe952daa469db6e99d027", func := "humpyard/humpyardlaw11.JobFlat", spec := "jobFlat", unfollowed := true, recurses := true, apart := false, narrowed := true }
def JobFlatUptoSaid : Prop := jobFlatUptoRow.holds Try.pinned (OpenSpec.upto jobFlatSpec)

/-- 'humpyardlaw11.JobSorts', WHERE WHAT IT READS IS OF BULK AT MOST 1048576: true; the input reads as it did. -/
def jobSortsUptoRow : OpenClaim := { program := "ythedalfokekbkaa", sum := "2bf0c17bb0d08acad831de4310484e8089de9dde0defe952daa469db6e99d027", func := "humpyard/humpyardlaw11.JobSorts", spec := "jobSorts", unfollowed := true, recurses := true, apart := false, narrowed := true }
def JobSortsUptoSaid : Prop := jobSortsUptoRow.holds Try.pinned (OpenSpec.upto jobSortsSpec)

/-- 'humpyardlaw11.JobTrains', WHERE WHAT IT READS IS OF BULK AT MOST 1048576: true; the input reads as it did. -/
def jobTrainsUptoRow : OpenClaim := { program := "ythedalfokekbkaa", sum := "2bf0c17bb0d08acad831de4310484e8089de9dde0defe952daa469db6e99d027", func := "humpyard/humpyardlaw11.JobTrains", spec := "jobTrains", unfollowed := true, recurses := true, apart := false, narrowed := true }
def JobTrainsUptoSaid : Prop := jobTrainsUptoRow.holds Try.pinned (OpenSpec.upto jobTrainsSpec)

end Rows
end Go.Proofs.Ythedalfokekbkaa
