/-
  No cell of these rows narrows 'for every input' (looked for: loops, veiled, ifaces, maps, wideKeys, modest, calm, conditions, laid).
  DERIVED. THE GIVEN ROWS OF THIS SEAT. 5 by the template 'for every input the law returns true; each argument reads behind the call as it read before'; 0 by the template 'total and deterministic' (their statements: YtknkgcphamhjlaaTotals.lean).
  GIVEN WITH THE SEED: the statements are not yours to turn. If you find one false, say at which input.
  Laid BY PROGRAM, IN A SANDBOX (cutbox-rows.mjs): the forced cells as the released guide's own fill.sh prints them over the translation df044a42d9fa7afa… (all of the seat's roots in one cut). By AI agents, Wed Nov 11 2026. No macro, syntax, notation, axiom, sorry.
-/
import Derived.Test.YtknkgcphamhjlaaChecked
import GoSem.Claim
import GoSem.ClaimJoined
import GoSem.ClaimMapViews
import Derived.JoinedTies
import Derived.KernelRfl
namespace Go.Proofs.Ytknkgcphamhjlaa
/- THE CELL 'sum', in the pinned program and in every row, IS THE sha256 OF THE DUMP (.gsa) THAT YtknkgcphamhjlaaProg.lean LOADS. Nothing in Lean hashes anything: it is a label: what it is worth is what the hold of that sum in a sandbox is worth. -/
noncomputable def Try.pinned : Pinned := { name := "ytknkgcphamhjlaa", sum := "df044a42d9fa7afa9411ac40187157591f4d0a069c2f98601bae7b5cbe0fb09b", checked := Try.checked }
namespace Rows
def none {H : Type} : Left H := { results := [], args := [] }

/-- 'humpyardlaw16.AssignLimits': WHATEVER THE INPUT: true; the input reads as it did. -/
def assignLimitsSpec : ChangeSpec := { name := "assignLimits", fn := fun _ => fun
  | [d1, d2, d3] => { results := [.lit (.bool true)], args := [d1, d2, d3] }
  | _ => none }
def assignLimitsRow : OpenClaim := { program := "ytknkgcphamhjlaa", sum := "df044a42d9fa7afa9411ac40187157591f4d0a069c2f98601bae7b5cbe0fb09b", func := "humpyard/humpyardlaw16.AssignLimits", spec := "assignLimits", unfollowed := true, recurses := true, apart := false }
def AssignLimitsSaid : Prop := assignLimitsRow.holds Try.pinned (OpenSpec.ofChange assignLimitsSpec)

/-- ITS FALSE NEIGHBOUR: 'it returns false'. Refute it at one input. -/
def assignLimitsWrong : ChangeSpec := { name := "assignLimits", fn := fun _ => fun
  | [d1, d2, d3] => { results := [.lit (.bool false)], args := [d1, d2, d3] }
  | _ => none }
def AssignLimitsWrongFalsely : Prop := assignLimitsRow.holds Try.pinned (OpenSpec.ofChange assignLimitsWrong)

/-- 'humpyardlaw16.AssignExact': WHATEVER THE INPUT: true; the input reads as it did. -/
def assignExactSpec : ChangeSpec := { name := "assignExact", fn := fun _ => fun
  | [d1, d2, d3, d4, d5] => { results := [.lit (.bool true)], args := [d1, d2, d3, d4, d5] }
  | _ => none }
def assignExactRow : OpenClaim := { program := "ytknkgcphamhjlaa", sum := "df044a42d9fa7afa9411ac40187157591f4d0a069c2f98601bae7b5cbe0fb09b", func := "humpyard/humpyardlaw16.AssignExact", spec := "assignExact", unfollowed := true, recurses := true, apart := false }
def AssignExactSaid : Prop := assignExactRow.holds Try.pinned (OpenSpec.ofChange assignExactSpec)

/-- ITS FALSE NEIGHBOUR: 'it returns false'. Refute it at one input. -/
def assignExactWrong : ChangeSpec := { name := "assignExact", fn := fun _ => fun
  | [d1, d2, d3, d4, d5] => { results := [.lit (.bool false)], args := [d1, d2, d3, d4, d5] }
  | _ => none }
def AssignExactWrongFalsely : Prop := assignExactRow.holds Try.pinned (OpenSpec.ofChange assignExactWrong)

/-- 'humpyardlaw16.AssignDuality': WHATEVER THE INPUT: true; the input reads as it did. -/
def assignDualitySpec : ChangeSpec := { name := "assignDuality", fn := fun _ => fun
  | [d] => { results := [.lit (.bool true)], args := [d] }
  | _ => none }
def assignDualityRow : OpenClaim := { program := "ytknkgcphamhjlaa", sum := "df044a42d9fa7afa9411ac40187157591f4d0a069c2f98601bae7b5cbe0fb09b", func := "humpyard/humpyardlaw16.AssignDuality", spec := "assignDuality", unfollowed := true, recurses := true, apart := false }
def AssignDualitySaid : Prop := assignDualityRow.holds Try.pinned (OpenSpec.ofChange assignDualitySpec)

/-- ITS FALSE NEIGHBOUR: 'it returns false'. Refute it at one input. -/
def assignDualityWrong : ChangeSpec := { name := "assignDuality", fn := fun _ => fun
  | [d] => { results := [.lit (.bool false)], args := [d] }
  | _ => none }
def AssignDualityWrongFalsely : Prop := assignDualityRow.holds Try.pinned (OpenSpec.ofChange assignDualityWrong)

/-- 'humpyardlaw16.AssignShort': WHATEVER THE INPUT: true; the input reads as it did. -/
def assignShortSpec : ChangeSpec := { name := "assignShort", fn := fun _ => fun
  | [d] => { results := [.lit (.bool true)], args := [d] }
  | _ => none }
def assignShortRow : OpenClaim := { program := "ytknkgcphamhjlaa", sum := "df044a42d9fa7afa9411ac40187157591f4d0a069c2f98601bae7b5cbe0fb09b", func := "humpyard/humpyardlaw16.AssignShort", spec := "assignShort", unfollowed := true, recurses := true, apart := false }
def AssignShortSaid : Prop := assignShortRow.holds Try.pinned (OpenSpec.ofChange assignShortSpec)

/-- ITS FALSE NEIGHBOUR: 'it returns false'. Refute it at one input. -/
def assignShortWrong : ChangeSpec := { name := "assignShort", fn := fun _ => fun
  | [d] => { results := [.lit (.bool false)], args := [d] }
  | _ => none }
def AssignShortWrongFalsely : Prop := assignShortRow.holds Try.pinned (OpenSpec.ofChange assignShortWrong)

/-- 'humpyardlaw16.AssignMonotone': WHATEVER THE INPUT: true; the input reads as it did. -/
def assignMonotoneSpec : ChangeSpec := { name := "assignMonotone", fn := fun _ => fun
  | [d] => { results := [.lit (.bool true)], args := [d] }
  | _ => none }
def assignMonotoneRow : OpenClaim := { program := "ytknkgcphamhjlaa", sum := "df044a42d9fa7afa9411ac40187157591f4d0a069c2f98601bae7b5cbe0fb09b", func := "humpyard/humpyardlaw16.AssignMonotone", spec := "assignMonotone", unfollowed := true, recurses := true, apart := false }
def AssignMonotoneSaid : Prop := assignMonotoneRow.holds Try.pinned (OpenSpec.ofChange assignMonotoneSpec)

/-- ITS FALSE NEIGHBOUR: 'it returns false'. Refute it at one input. -/
def assignMonotoneWrong : ChangeSpec := { name := "assignMonotone", fn := fun _ => fun
  | [d] => { results := [.lit (.bool false)], args := [d] }
  | _ => none }
def AssignMonotoneWrongFalsely : Prop := assignMonotoneRow.holds Try.pinned (OpenSpec.ofChange assignMonotoneWrong)

/- THE SECOND FORM. 'bulk': how many values and letters a reading holds, each counted each time it is reached (what is shared counts as often as it is met; a slice's spare places count too). A statement '..UptoSaid' is the law's where the arguments, and the package variables that the reading takes, are together of bulk at most 1048576: NARROWER than '..Said'. Prove '..Said' where nothing that the law and all that it calls make is longer than what came in: it says more and counts as full. Else prove '..UptoSaid'. A law counts once. -/
mutual
def uptoBulk {H : Type} : DataW H → Nat
  | .lit (.string bytes) => bytes.length + 1
  | .lit _ => 1
  | .nil => 1
  | .ptr d => uptoBulk d + 1
  | .slice elems spare => uptoBulkAll elems + uptoBulkAll spare + 1
  | .agg parts => uptoBulkAll parts + 1
  | .iface _ d => uptoBulk d + 1
  | .map entries => uptoBulkEntries entries + 1
  | .held _ => 1
def uptoBulkAll {H : Type} : List (DataW H) → Nat
  | [] => 0
  | d :: r => uptoBulk d + uptoBulkAll r
def uptoBulkEntries {H : Type} : List (Lit × DataW H) → Nat
  | [] => 0
  | x :: r => uptoBulkEntry x + uptoBulkEntries r
def uptoBulkEntry {H : Type} : Lit × DataW H → Nat
  | (.string bytes, d) => bytes.length + uptoBulk d + 1
  | (_, d) => uptoBulk d + 1
 end
def uptoSmall : (H : Type) → List (DataW H) → Bool := fun _ ds => decide (uptoBulkAll ds ≤ 1048576)
def OpenSpec.upto (s : _root_.Go.ChangeSpec) : _root_.Go.OpenSpec := { _root_.Go.OpenSpec.ofChange s with cond := some uptoSmall }

/-- 'humpyardlaw16.AssignLimits', WHERE WHAT IT READS IS OF BULK AT MOST 1048576: true; the input reads as it did. -/
def assignLimitsUptoRow : OpenClaim := { program := "ytknkgcphamhjlaa", sum := "df044a42d9fa7afa9411ac40187157591f4d0a069c2f98601bae7b5cbe0fb09b", func := "humpyard/humpyardlaw16.AssignLimits", spec := "assignLimits", unfollowed := true, recurses := true, apart := false, narrowed := true }
def AssignLimitsUptoSaid : Prop := assignLimitsUptoRow.holds Try.pinned (OpenSpec.upto assignLimitsSpec)

/-- 'humpyardlaw16.AssignExact', WHERE WHAT IT READS IS OF BULK AT MOST 1048576: true; the input reads as it did. -/
def assignExactUptoRow : OpenClaim := { program := "ytknkgcphamhjlaa", sum := "df044a42d9fa7afa9411ac40187157591f4d0a069c2f98601bae7b5cbe0fb09b", func := "humpyard/humpyardlaw16.AssignExact", spec := "assignExact", unfollowed := true, recurses := true, apart := false, narrowed := true }
def AssignExactUptoSaid : Prop := assignExactUptoRow.holds Try.pinned (OpenSpec.upto assignExactSpec)

/-- 'humpyardlaw16.AssignDuality', WHERE WHAT IT READS IS OF BULK AT MOST 1048576: true; the input reads as it did. -/
def assignDualityUptoRow : OpenClaim := { program := "ytknkgcphamhjlaa", sum := "df044a42d9fa7afa9411ac40187157591f4d0a069c2f98601bae7b5cbe0fb09b", func := "humpyard/humpyardlaw16.AssignDuality", spec := "assignDuality", unfollowed := true, recurses := true, apart := false, narrowed := true }
def AssignDualityUptoSaid : Prop := assignDualityUptoRow.holds Try.pinned (OpenSpec.upto assignDualitySpec)

/-- 'humpyardlaw16.AssignShort', WHERE WHAT IT READS IS OF BULK AT MOST 1048576: true; the input reads as it did. -/
def assignShortUptoRow : OpenClaim := { program := "ytknkgcphamhjlaa", sum := "df044a42d9fa7afa9411ac40187157591f4d0a069c2f98601bae7b5cbe0fb09b", func := "humpyard/humpyardlaw16.AssignShort", spec := "assignShort", unfollowed := true, recurses := true, apart := false, narrowed := true }
def AssignShortUptoSaid : Prop := assignShortUptoRow.holds Try.pinned (OpenSpec.upto assignShortSpec)

/-- 'humpyardlaw16.AssignMonotone', WHERE WHAT IT READS IS OF BULK AT MOST 1048576: true; the input reads as it did. -/
def assignMonotoneUptoRow : OpenClaim := { program := "ytknkgcphamhjlaa", sum := "df044a42d9fa7afa9411ac40187157591f4d0a069c2f98601bae7b5cbe0fb09b", func := "humpyard/humpyardlaw16.AssignMonotone", spec := "assignMonotone", unfollowed := true, recurses := true, apart := false, narrowed := true }
def AssignMonotoneUptoSaid : Prop := assignMonotoneUptoRow.holds Try.pinned (OpenSpec.upto assignMonotoneSpec)

end Rows
end Go.Proofs.Ytknkgcphamhjlaa
