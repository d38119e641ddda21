/-
  No cell of these rows narrows 'for every input' (looked for: loops, veiled, ifaces, maps, wideKeys, modest, calm, conditions, laid).
  DERIVED. THE GIVEN ROWS OF THIS SEAT. 9 by the template 'for every input the law returns true; each argument reads behind the call as it read before'; 0 by the template 'total and deterministic' (their statements: YtcplanafcnnodaaTotals.lean).
  GIVEN WITH THE SEED: the statements are not yours to turn. If you find one false, say at which input.
  Laid BY PROGRAM, IN A SANDBOX (cutbox-rows.mjs): the forced cells as the released guide's own fill.sh prints them over the translation 1f46c8490c54bd9a… (all of the seat's roots in one cut). By AI agents, Wed Nov 11 2026. No macro, syntax, notation, axiom, sorry.
-/
import Derived.Test.YtcplanafcnnodaaChecked
import GoSem.Claim
import GoSem.ClaimJoined
import GoSem.ClaimMapViews
import Derived.JoinedTies
import Derived.KernelRfl
namespace Go.Proofs.Ytcplanafcnnodaa
/- THE CELL 'sum', in the pinned program and in every row, IS THE sha256 OF THE DUMP (.gsa) THAT YtcplanafcnnodaaProg.lean LOADS. Nothing in Lean hashes anything: it is a label: what it is worth is what the hold of that sum in a sandbox is worth. -/
noncomputable def Try.pinned : Pinned := { name := "ytcplanafcnnodaa", sum := "1f46c8490c54bd9a453a755c96620051994e5c2b7f4de982c2c8d3bb593ac031", checked := Try.checked }
namespace Rows
def none {H : Type} : Left H := { results := [], args := [] }

/-- 'humpyardlaw13.LeastcodeLimits': WHATEVER THE INPUT: true; the input reads as it did. -/
def leastcodeLimitsSpec : ChangeSpec := { name := "leastcodeLimits", fn := fun _ => fun
  | [d1, d2] => { results := [.lit (.bool true)], args := [d1, d2] }
  | _ => none }
def leastcodeLimitsRow : OpenClaim := { program := "ytcplanafcnnodaa", sum := "1f46c8490c54bd9a453a755c96620051994e5c2b7f4de982c2c8d3bb593ac031", func := "humpyard/humpyardlaw13.LeastcodeLimits", spec := "leastcodeLimits", unfollowed := true, recurses := true, apart := false }
def LeastcodeLimitsSaid : Prop := leastcodeLimitsRow.holds Try.pinned (OpenSpec.ofChange leastcodeLimitsSpec)

/-- ITS FALSE NEIGHBOUR: 'it returns false'. Refute it at one input. -/
def leastcodeLimitsWrong : ChangeSpec := { name := "leastcodeLimits", fn := fun _ => fun
  | [d1, d2] => { results := [.lit (.bool false)], args := [d1, d2] }
  | _ => none }
def LeastcodeLimitsWrongFalsely : Prop := leastcodeLimitsRow.holds Try.pinned (OpenSpec.ofChange leastcodeLimitsWrong)

/-- 'humpyardlaw13.LeastcodeRounds': WHATEVER THE INPUT: true; the input reads as it did. -/
def leastcodeRoundsSpec : ChangeSpec := { name := "leastcodeRounds", fn := fun _ => fun
  | [d1, d2] => { results := [.lit (.bool true)], args := [d1, d2] }
  | _ => none }
def leastcodeRoundsRow : OpenClaim := { program := "ytcplanafcnnodaa", sum := "1f46c8490c54bd9a453a755c96620051994e5c2b7f4de982c2c8d3bb593ac031", func := "humpyard/humpyardlaw13.LeastcodeRounds", spec := "leastcodeRounds", unfollowed := true, recurses := true, apart := false }
def LeastcodeRoundsSaid : Prop := leastcodeRoundsRow.holds Try.pinned (OpenSpec.ofChange leastcodeRoundsSpec)

/-- ITS FALSE NEIGHBOUR: 'it returns false'. Refute it at one input. -/
def leastcodeRoundsWrong : ChangeSpec := { name := "leastcodeRounds", fn := fun _ => fun
  | [d1, d2] => { results := [.lit (.bool false)], args := [d1, d2] }
  | _ => none }
def LeastcodeRoundsWrongFalsely : Prop := leastcodeRoundsRow.holds Try.pinned (OpenSpec.ofChange leastcodeRoundsWrong)

/-- 'humpyardlaw13.LeastcodeExact': WHATEVER THE INPUT: true; the input reads as it did. -/
def leastcodeExactSpec : ChangeSpec := { name := "leastcodeExact", fn := fun _ => fun
  | [d1, d2, d3] => { results := [.lit (.bool true)], args := [d1, d2, d3] }
  | _ => none }
def leastcodeExactRow : OpenClaim := { program := "ytcplanafcnnodaa", sum := "1f46c8490c54bd9a453a755c96620051994e5c2b7f4de982c2c8d3bb593ac031", func := "humpyard/humpyardlaw13.LeastcodeExact", spec := "leastcodeExact", unfollowed := true, recurses := true, apart := false }
def LeastcodeExactSaid : Prop := leastcodeExactRow.holds Try.pinned (OpenSpec.ofChange leastcodeExactSpec)

/-- ITS FALSE NEIGHBOUR: 'it returns false'. Refute it at one input. -/
def leastcodeExactWrong : ChangeSpec := { name := "leastcodeExact", fn := fun _ => fun
  | [d1, d2, d3] => { results := [.lit (.bool false)], args := [d1, d2, d3] }
  | _ => none }
def LeastcodeExactWrongFalsely : Prop := leastcodeExactRow.holds Try.pinned (OpenSpec.ofChange leastcodeExactWrong)

/-- 'humpyardlaw13.LeastcodeSorts': WHATEVER THE INPUT: true; the input reads as it did. -/
def leastcodeSortsSpec : ChangeSpec := { name := "leastcodeSorts", fn := fun _ => fun
  | [d] => { results := [.lit (.bool true)], args := [d] }
  | _ => none }
def leastcodeSortsRow : OpenClaim := { program := "ytcplanafcnnodaa", sum := "1f46c8490c54bd9a453a755c96620051994e5c2b7f4de982c2c8d3bb593ac031", func := "humpyard/humpyardlaw13.LeastcodeSorts", spec := "leastcodeSorts", unfollowed := true, recurses := true, apart := false }
def LeastcodeSortsSaid : Prop := leastcodeSortsRow.holds Try.pinned (OpenSpec.ofChange leastcodeSortsSpec)

/-- ITS FALSE NEIGHBOUR: 'it returns false'. Refute it at one input. -/
def leastcodeSortsWrong : ChangeSpec := { name := "leastcodeSorts", fn := fun _ => fun
  | [d] => { results := [.lit (.bool false)], args := [d] }
  | _ => none }
def LeastcodeSortsWrongFalsely : Prop := leastcodeSortsRow.holds Try.pinned (OpenSpec.ofChange leastcodeSortsWrong)

/-- 'humpyardlaw13.LeastcodeLeast': WHATEVER THE INPUT: true; the input reads as it did. -/
def leastcodeLeastSpec : ChangeSpec := { name := "leastcodeLeast", fn := fun _ => fun
  | [d] => { results := [.lit (.bool true)], args := [d] }
  | _ => none }
def leastcodeLeastRow : OpenClaim := { program := "ytcplanafcnnodaa", sum := "1f46c8490c54bd9a453a755c96620051994e5c2b7f4de982c2c8d3bb593ac031", func := "humpyard/humpyardlaw13.LeastcodeLeast", spec := "leastcodeLeast", unfollowed := true, recurses := true, apart := false }
def LeastcodeLeastSaid : Prop := leastcodeLeastRow.holds Try.pinned (OpenSpec.ofChange leastcodeLeastSpec)

/-- ITS FALSE NEIGHBOUR: 'it returns false'. Refute it at one input. -/
def leastcodeLeastWrong : ChangeSpec := { name := "leastcodeLeast", fn := fun _ => fun
  | [d] => { results := [.lit (.bool false)], args := [d] }
  | _ => none }
def LeastcodeLeastWrongFalsely : Prop := leastcodeLeastRow.holds Try.pinned (OpenSpec.ofChange leastcodeLeastWrong)

/-- 'humpyardlaw13.LeastcodeBelow': WHATEVER THE INPUT: true; the input reads as it did. -/
def leastcodeBelowSpec : ChangeSpec := { name := "leastcodeBelow", fn := fun _ => fun
  | [d] => { results := [.lit (.bool true)], args := [d] }
  | _ => none }
def leastcodeBelowRow : OpenClaim := { program := "ytcplanafcnnodaa", sum := "1f46c8490c54bd9a453a755c96620051994e5c2b7f4de982c2c8d3bb593ac031", func := "humpyard/humpyardlaw13.LeastcodeBelow", spec := "leastcodeBelow", unfollowed := true, recurses := true, apart := false }
def LeastcodeBelowSaid : Prop := leastcodeBelowRow.holds Try.pinned (OpenSpec.ofChange leastcodeBelowSpec)

/-- ITS FALSE NEIGHBOUR: 'it returns false'. Refute it at one input. -/
def leastcodeBelowWrong : ChangeSpec := { name := "leastcodeBelow", fn := fun _ => fun
  | [d] => { results := [.lit (.bool false)], args := [d] }
  | _ => none }
def LeastcodeBelowWrongFalsely : Prop := leastcodeBelowRow.holds Try.pinned (OpenSpec.ofChange leastcodeBelowWrong)

/-- 'humpyardlaw13.LeastcodeBounds': WHATEVER THE INPUT: true; the input reads as it did. -/
def leastcodeBoundsSpec : ChangeSpec := { name := "leastcodeBounds", fn := fun _ => fun
  | [d] => { results := [.lit (.bool true)], args := [d] }
  | _ => none }
def leastcodeBoundsRow : OpenClaim := { program := "ytcplanafcnnodaa", sum := "1f46c8490c54bd9a453a755c96620051994e5c2b7f4de982c2c8d3bb593ac031", func := "humpyard/humpyardlaw13.LeastcodeBounds", spec := "leastcodeBounds", unfollowed := true, recurses := true, apart := false }
def LeastcodeBoundsSaid : Prop := leastcodeBoundsRow.holds Try.pinned (OpenSpec.ofChange leastcodeBoundsSpec)

/-- ITS FALSE NEIGHBOUR: 'it returns false'. Refute it at one input. -/
def leastcodeBoundsWrong : ChangeSpec := { name := "leastcodeBounds", fn := fun _ => fun
  | [d] => { results := [.lit (.bool false)], args := [d] }
  | _ => none }
def LeastcodeBoundsWrongFalsely : Prop := leastcodeBoundsRow.holds Try.pinned (OpenSpec.ofChange leastcodeBoundsWrong)

/-- 'humpyardlaw13.LeastcodeLevels': WHATEVER THE INPUT: true; the input reads as it did. -/
def leastcodeLevelsSpec : ChangeSpec := { name := "leastcodeLevels", fn := fun _ => fun
  | [d] => { results := [.lit (.bool true)], args := [d] }
  | _ => none }
def leastcodeLevelsRow : OpenClaim := { program := "ytcplanafcnnodaa", sum := "1f46c8490c54bd9a453a755c96620051994e5c2b7f4de982c2c8d3bb593ac031", func := "humpyard/humpyardlaw13.LeastcodeLevels", spec := "leastcodeLevels", unfollowed := true, recurses := true, apart := false }
def LeastcodeLevelsSaid : Prop := leastcodeLevelsRow.holds Try.pinned (OpenSpec.ofChange leastcodeLevelsSpec)

/-- ITS FALSE NEIGHBOUR: 'it returns false'. Refute it at one input. -/
def leastcodeLevelsWrong : ChangeSpec := { name := "leastcodeLevels", fn := fun _ => fun
  | [d] => { results := [.lit (.bool false)], args := [d] }
  | _ => none }
def LeastcodeLevelsWrongFalsely : Prop := leastcodeLevelsRow.holds Try.pinned (OpenSpec.ofChange leastcodeLevelsWrong)

/-- 'humpyardlaw13.LeastcodeWeights': WHATEVER THE INPUT: true; the input reads as it did. -/
def leastcodeWeightsSpec : ChangeSpec := { name := "leastcodeWeights", fn := fun _ => fun
  | [d] => { results := [.lit (.bool true)], args := [d] }
  | _ => none }
def leastcodeWeightsRow : OpenClaim := { program := "ytcplanafcnnodaa", sum := "1f46c8490c54bd9a453a755c96620051994e5c2b7f4de982c2c8d3bb593ac031", func := "humpyard/humpyardlaw13.LeastcodeWeights", spec := "leastcodeWeights", unfollowed := true, recurses := true, apart := false }
def LeastcodeWeightsSaid : Prop := leastcodeWeightsRow.holds Try.pinned (OpenSpec.ofChange leastcodeWeightsSpec)

/-- ITS FALSE NEIGHBOUR: 'it returns false'. Refute it at one input. -/
def leastcodeWeightsWrong : ChangeSpec := { name := "leastcodeWeights", fn := fun _ => fun
  | [d] => { results := [.lit (.bool false)], args := [d] }
  | _ => none }
def LeastcodeWeightsWrongFalsely : Prop := leastcodeWeightsRow.holds Try.pinned (OpenSpec.ofChange leastcodeWeightsWrong)

/- THE SECOND FORM. 'bulk': how many values and letters a reading holds, each counted each time it is reached (what is shared counts as often as it is met; a slice's spare places count too). A statement '..UptoSaid' is the law's where the arguments, and the package variables that the reading takes, are together of bulk at most 1048576: NARROWER than '..Said'. Prove '..Said' where nothing that the law and all that it calls make is longer than what came in: it says more and counts as full. Else prove '..UptoSaid'. A law counts once. -/
mutual
def uptoBulk {H : Type} : DataW H → Nat
  | .lit (.string bytes) => bytes.length + 1
  | .lit _ => 1
  | .nil => 1
  | .ptr d => uptoBulk d + 1
  | .slice elems spare => uptoBulkAll elems + uptoBulkAll spare + 1
  | .agg parts => uptoBulkAll parts + 1
  | .iface _ d => uptoBulk d + 1
  | .map entries => uptoBulkEntries entries + 1
  | .held _ => 1
def uptoBulkAll {H : Type} : List (DataW H) → Nat
  | [] => 0
  | d :: r => uptoBulk d + uptoBulkAll r
def uptoBulkEntries {H : Type} : List (Lit × DataW H) → Nat
  | [] => 0
  | x :: r => uptoBulkEntry x + uptoBulkEntries r
def uptoBulkEntry {H : Type} : Lit × DataW H → Nat
  | (.string bytes, d) => bytes.length + uptoBulk d + 1
  | (_, d) => uptoBulk d + 1
 end
def uptoSmall : (H : Type) → List (DataW H) → Bool := fun _ ds => decide (uptoBulkAll ds ≤ 1048576)
def OpenSpec.upto (s : _root_.Go.ChangeSpec) : _root_.Go.OpenSpec := { _root_.Go.OpenSpec.ofChange s with cond := some uptoSmall }

/-- 'humpyardlaw13.LeastcodeLimits', WHERE WHAT IT READS IS OF BULK AT MOST 1048576: true; the input reads as it did. -/
def leastcodeLimitsUptoRow : OpenClaim := { program := "ytcplanafcnnodaa", sum := "1f46c8490c54bd9a453a755c96620051994e5c2b7f4de982c2c8d3bb593ac031", func := "humpyard/humpyardlaw13.LeastcodeLimits", spec := "leastcodeLimits", unfollowed := true, recurses := true, apart := false, narrowed := true }
def LeastcodeLimitsUptoSaid : Prop := leastcodeLimitsUptoRow.holds Try.pinned (OpenSpec.upto leastcodeLimitsSpec)

/-- 'humpyardlaw13.LeastcodeRounds', WHERE WHAT IT READS IS OF BULK AT MOST 1048576: true; the input reads as it did. -/
def leastcodeRoundsUptoRow : OpenClaim := { program := "ytcplanafcnnodaa", sum := "1f46c8490c54bd9a453a755c96620051994e5c2b7f4de982c2c8d3bb593ac031", func := "humpyard/humpyardlaw13.LeastcodeRounds", spec := "leastcodeRounds", unfollowed := true, recurses := true, apart := false, narrowed := true }
def LeastcodeRoundsUptoSaid : Prop := leastcodeRoundsUptoRow.holds Try.pinned (OpenSpec.upto leastcodeRoundsSpec)

/-- 'humpyardlaw13.LeastcodeExact', WHERE WHAT IT READS IS OF BULK AT MOST 1048576: true; the input reads as it did. -/
def leastcodeExactUptoRow : OpenClaim := { program := "ytcplanafcnnodaa", sum := "1f46c8490c54bd9a453a755c96620051994e5c2b7f4de982c2c8d3bb593ac031", func := "humpyard/humpyardlaw13.LeastcodeExact", spec := "leastcodeExact", unfollowed := true, recurses := true, apart := false, narrowed := true }
def LeastcodeExactUptoSaid : Prop := leastcodeExactUptoRow.holds Try.pinned (OpenSpec.upto leastcodeExactSpec)

/-- 'humpyardlaw13.LeastcodeSorts', WHERE WHAT IT READS IS OF BULK AT MOST 1048576: true; the input reads as it did. -/
def leastcodeSortsUptoRow : OpenClaim := { program := "ytcplanafcnnodaa", sum := "1f46c8490c54bd9a453a755c96620051994e5c2b7f4de982c2c8d3bb593ac031", func := "humpyard/humpyardlaw13.LeastcodeSorts", spec := "leastcodeSorts", unfollowed := true, recurses := true, apart := false, narrowed := true }
def LeastcodeSortsUptoSaid : Prop := leastcodeSortsUptoRow.holds Try.pinned (OpenSpec.upto leastcodeSortsSpec)

/-- 'humpyardlaw13.LeastcodeLeast', WHERE WHAT IT READS IS OF BULK AT MOST 1048576: true; the input reads as it did. -/
def leastcodeLeastUptoRow : OpenClaim := { program := "ytcplanafcnnodaa", sum := "1f46c8490c54bd9a453a755c96620051994e5c2b7f4de982c2c8d3bb593ac031", func := "humpyard/humpyardlaw13.LeastcodeLeast", spec := "leastcodeLeast", unfollowed := true, recurses := true, apart := false, narrowed := true }
def LeastcodeLeastUptoSaid : Prop := leastcodeLeastUptoRow.holds Try.pinned (OpenSpec.upto leastcodeLeastSpec)

/-- 'humpyardlaw13.LeastcodeBelow', WHERE WHAT IT READS IS OF BULK AT MOST 1048576: true; the input reads as it did. -/
def leastcodeBelowUptoRow : OpenClaim := { program := "ytcplanafcnnodaa", sum := "1f46c8490c54bd9a453a755c96620051994e5c2b7f4de982c2c8d3bb593ac031", func := "humpyard/humpyardlaw13.LeastcodeBelow", spec := "leastcodeBelow", unfollowed := true, recurses := true, apart := false, narrowed := true }
def LeastcodeBelowUptoSaid : Prop := leastcodeBelowUptoRow.holds Try.pinned (OpenSpec.upto leastcodeBelowSpec)

/-- 'humpyardlaw13.LeastcodeBounds', WHERE WHAT IT READS IS OF BULK AT MOST 1048576: true; the input reads as it did. -/
def leastcodeBoundsUptoRow : OpenClaim := { program := "ytcplanafcnnodaa", sum := "1f46c8490c54bd9a453a755c96620051994e5c2b7f4de982c2c8d3bb593ac031", func := "humpyard/humpyardlaw13.LeastcodeBounds", spec := "leastcodeBounds", unfollowed := true, recurses := true, apart := false, narrowed := true }
def LeastcodeBoundsUptoSaid : Prop := leastcodeBoundsUptoRow.holds Try.pinned (OpenSpec.upto leastcodeBoundsSpec)

/-- 'humpyardlaw13.LeastcodeLevels', WHERE WHAT IT READS IS OF BULK AT MOST 1048576: true; the input reads as it did. -/
def leastcodeLevelsUptoRow : OpenClaim := { program := "ytcplanafcnnodaa", sum := "1f46c8490c54bd9a453a755c96620051994e5c2b7f4de982c2c8d3bb593ac031", func := "humpyard/humpyardlaw13.LeastcodeLevels", spec := "leastcodeLevels", unfollowed := true, recurses := true, apart := false, narrowed := true }
def LeastcodeLevelsUptoSaid : Prop := leastcodeLevelsUptoRow.holds Try.pinned (OpenSpec.upto leastcodeLevelsSpec)

/-- 'humpyardlaw13.LeastcodeWeights', WHERE WHAT IT READS IS OF BULK AT MOST 1048576: true; the input reads as it did. -/
def leastcodeWeightsUptoRow : OpenClaim := { program := "ytcplanafcnnodaa", sum := "1f46c8490c54bd9a453a755c96620051994e5c2b7f4de982c2c8d3bb593ac031", func := "humpyard/humpyardlaw13.LeastcodeWeights", spec := "leastcodeWeights", unfollowed := true, recurses := true, apart := false, narrowed := true }
def LeastcodeWeightsUptoSaid : Prop := leastcodeWeightsUptoRow.holds Try.pinned (OpenSpec.upto leastcodeWeightsSpec)

end Rows
end Go.Proofs.Ytcplanafcnnodaa
