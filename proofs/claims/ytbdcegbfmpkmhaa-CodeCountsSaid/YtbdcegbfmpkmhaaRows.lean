/-
  No cell of these rows narrows 'for every input' (looked for: loops, veiled, ifaces, maps, wideKeys, modest, calm, conditions, laid).
  DERIVED. THE GIVEN ROWS OF THIS SEAT. 6 by the template 'for every input the law returns true; each argument reads behind the call as it read before'; 0 by the template 'total and deterministic' (their statements: YtbdcegbfmpkmhaaTotals.lean).
  GIVEN WITH THE SEED: the statements are not yours to turn. If you find one false, say at which input.
  Laid BY PROGRAM, IN A SANDBOX (cutbox-rows.mjs): the forced cells as the released guide's own fill.sh prints them over the translation fdaf9d416dc217bd… (all of the seat's roots in one cut). By AI agents, Wed Nov 11 2026. No macro, syntax, notation, axiom, sorry.
-/
import Derived.Test.YtbdcegbfmpkmhaaChecked
import GoSem.Claim
import GoSem.ClaimJoined
import GoSem.ClaimMapViews
import Derived.JoinedTies
import Derived.KernelRfl
namespace Go.Proofs.Ytbdcegbfmpkmhaa
/- THE CELL 'sum', in the pinned program and in every row, IS THE sha256 OF THE DUMP (.gsa) THAT YtbdcegbfmpkmhaaProg.lean LOADS. Nothing in Lean hashes anything: it is a label: what it is worth is what the hold of that sum in a sandbox is worth. -/
noncomputable def Try.pinned : Pinned := { name := "ytbdcegbfmpkmhaa", sum := "fdaf9d416dc217bde1326c650c1fd0ecce4358cc2b2a4eb7756da268ff4d18a9", checked := Try.checked }
namespace Rows
def none {H : Type} : Left H := { results := [], args := [] }

/-- 'humpyardlaw12.CodeExact': WHATEVER THE INPUT: true; the input reads as it did. -/
def codeExactSpec : ChangeSpec := { name := "codeExact", fn := fun _ => fun
  | [d1, d2, d3, d4] => { results := [.lit (.bool true)], args := [d1, d2, d3, d4] }
  | _ => none }
def codeExactRow : OpenClaim := { program := "ytbdcegbfmpkmhaa", sum := "fdaf9d416dc217bde1326c650c1fd0ecce4358cc2b2a4eb7756da268ff4d18a9", func := "humpyard/humpyardlaw12.CodeExact", spec := "codeExact", apart := false }
def CodeExactSaid : Prop := codeExactRow.holds Try.pinned (OpenSpec.ofChange codeExactSpec)

/-- ITS FALSE NEIGHBOUR: 'it returns false'. Refute it at one input. -/
def codeExactWrong : ChangeSpec := { name := "codeExact", fn := fun _ => fun
  | [d1, d2, d3, d4] => { results := [.lit (.bool false)], args := [d1, d2, d3, d4] }
  | _ => none }
def CodeExactWrongFalsely : Prop := codeExactRow.holds Try.pinned (OpenSpec.ofChange codeExactWrong)

/-- 'humpyardlaw12.CodeNext': WHATEVER THE INPUT: true; the input reads as it did. -/
def codeNextSpec : ChangeSpec := { name := "codeNext", fn := fun _ => fun
  | [d] => { results := [.lit (.bool true)], args := [d] }
  | _ => none }
def codeNextRow : OpenClaim := { program := "ytbdcegbfmpkmhaa", sum := "fdaf9d416dc217bde1326c650c1fd0ecce4358cc2b2a4eb7756da268ff4d18a9", func := "humpyard/humpyardlaw12.CodeNext", spec := "codeNext", apart := false }
def CodeNextSaid : Prop := codeNextRow.holds Try.pinned (OpenSpec.ofChange codeNextSpec)

/-- ITS FALSE NEIGHBOUR: 'it returns false'. Refute it at one input. -/
def codeNextWrong : ChangeSpec := { name := "codeNext", fn := fun _ => fun
  | [d] => { results := [.lit (.bool false)], args := [d] }
  | _ => none }
def CodeNextWrongFalsely : Prop := codeNextRow.holds Try.pinned (OpenSpec.ofChange codeNextWrong)

/-- 'humpyardlaw12.CodeRanks': WHATEVER THE INPUT: true; the input reads as it did. -/
def codeRanksSpec : ChangeSpec := { name := "codeRanks", fn := fun _ => fun
  | [d] => { results := [.lit (.bool true)], args := [d] }
  | _ => none }
def codeRanksRow : OpenClaim := { program := "ytbdcegbfmpkmhaa", sum := "fdaf9d416dc217bde1326c650c1fd0ecce4358cc2b2a4eb7756da268ff4d18a9", func := "humpyard/humpyardlaw12.CodeRanks", spec := "codeRanks", apart := false }
def CodeRanksSaid : Prop := codeRanksRow.holds Try.pinned (OpenSpec.ofChange codeRanksSpec)

/-- ITS FALSE NEIGHBOUR: 'it returns false'. Refute it at one input. -/
def codeRanksWrong : ChangeSpec := { name := "codeRanks", fn := fun _ => fun
  | [d] => { results := [.lit (.bool false)], args := [d] }
  | _ => none }
def CodeRanksWrongFalsely : Prop := codeRanksRow.holds Try.pinned (OpenSpec.ofChange codeRanksWrong)

/-- 'humpyardlaw12.CodeCounts': WHATEVER THE INPUT: true; the input reads as it did. -/
def codeCountsSpec : ChangeSpec := { name := "codeCounts", fn := fun _ => fun
  | [d1, d2] => { results := [.lit (.bool true)], args := [d1, d2] }
  | _ => none }
def codeCountsRow : OpenClaim := { program := "ytbdcegbfmpkmhaa", sum := "fdaf9d416dc217bde1326c650c1fd0ecce4358cc2b2a4eb7756da268ff4d18a9", func := "humpyard/humpyardlaw12.CodeCounts", spec := "codeCounts", apart := false }
def CodeCountsSaid : Prop := codeCountsRow.holds Try.pinned (OpenSpec.ofChange codeCountsSpec)

/-- ITS FALSE NEIGHBOUR: 'it returns false'. Refute it at one input. -/
def codeCountsWrong : ChangeSpec := { name := "codeCounts", fn := fun _ => fun
  | [d1, d2] => { results := [.lit (.bool false)], args := [d1, d2] }
  | _ => none }
def CodeCountsWrongFalsely : Prop := codeCountsRow.holds Try.pinned (OpenSpec.ofChange codeCountsWrong)

/-- 'humpyardlaw12.CodeRounds': WHATEVER THE INPUT: true; the input reads as it did. -/
def codeRoundsSpec : ChangeSpec := { name := "codeRounds", fn := fun _ => fun
  | [d] => { results := [.lit (.bool true)], args := [d] }
  | _ => none }
def codeRoundsRow : OpenClaim := { program := "ytbdcegbfmpkmhaa", sum := "fdaf9d416dc217bde1326c650c1fd0ecce4358cc2b2a4eb7756da268ff4d18a9", func := "humpyard/humpyardlaw12.CodeRounds", spec := "codeRounds", apart := false }
def CodeRoundsSaid : Prop := codeRoundsRow.holds Try.pinned (OpenSpec.ofChange codeRoundsSpec)

/-- ITS FALSE NEIGHBOUR: 'it returns false'. Refute it at one input. -/
def codeRoundsWrong : ChangeSpec := { name := "codeRounds", fn := fun _ => fun
  | [d] => { results := [.lit (.bool false)], args := [d] }
  | _ => none }
def CodeRoundsWrongFalsely : Prop := codeRoundsRow.holds Try.pinned (OpenSpec.ofChange codeRoundsWrong)

/-- 'humpyardlaw12.CodeReal': WHATEVER THE INPUT: true; the input reads as it did. -/
def codeRealSpec : ChangeSpec := { name := "codeReal", fn := fun _ => fun
  | [d] => { results := [.lit (.bool true)], args := [d] }
  | _ => none }
def codeRealRow : OpenClaim := { program := "ytbdcegbfmpkmhaa", sum := "fdaf9d416dc217bde1326c650c1fd0ecce4358cc2b2a4eb7756da268ff4d18a9", func := "humpyard/humpyardlaw12.CodeReal", spec := "codeReal", apart := false }
def CodeRealSaid : Prop := codeRealRow.holds Try.pinned (OpenSpec.ofChange codeRealSpec)

/-- ITS FALSE NEIGHBOUR: 'it returns false'. Refute it at one input. -/
def codeRealWrong : ChangeSpec := { name := "codeReal", fn := fun _ => fun
  | [d] => { results := [.lit (.bool false)], args := [d] }
  | _ => none }
def CodeRealWrongFalsely : Prop := codeRealRow.holds Try.pinned (OpenSpec.ofChange codeRealWrong)

/- THE SECOND FORM. 'bulk': how many values and letters a reading holds, each counted each time it is reached (what is shared counts as often as it is met; a slice's spare places count too). A statement '..UptoSaid' is the law's where the arguments, and the package variables that the reading takes, are together of bulk at most 1048576: NARROWER than '..Said'. Prove '..Said' where nothing that the law and all that it calls make is longer than what came in: it says more and counts as full. Else prove '..UptoSaid'. A law counts once. -/
mutual
def uptoBulk {H : Type} : DataW H → Nat
  | .lit (.string bytes) => bytes.length + 1
  | .lit _ => 1
  | .nil => 1
  | .ptr d => uptoBulk d + 1
  | .slice elems spare => uptoBulkAll elems + uptoBulkAll spare + 1
  | .agg parts => uptoBulkAll parts + 1
  | .iface _ d => uptoBulk d + 1
  | .map entries => uptoBulkEntries entries + 1
  | .held _ => 1
def uptoBulkAll {H : Type} : List (DataW H) → Nat
  | [] => 0
  | d :: r => uptoBulk d + uptoBulkAll r
def uptoBulkEntries {H : Type} : List (Lit × DataW H) → Nat
  | [] => 0
  | x :: r => uptoBulkEntry x + uptoBulkEntries r
def uptoBulkEntry {H : Type} : Lit × DataW H → Nat
  | (.string bytes, d) => bytes.length + uptoBulk d + 1
  | (_, d) => uptoBulk d + 1
 end
def uptoSmall : (H : Type) → List (DataW H) → Bool := fun _ ds => decide (uptoBulkAll ds ≤ 1048576)
def OpenSpec.upto (s : _root_.Go.ChangeSpec) : _root_.Go.OpenSpec := { _root_.Go.OpenSpec.ofChange s with cond := some uptoSmall }

/-- 'humpyardlaw12.CodeExact', WHERE WHAT IT READS IS OF BULK AT MOST 1048576: true; the input reads as it did. -/
def codeExactUptoRow : OpenClaim := { program := "ytbdcegbfmpkmhaa", sum := "fdaf9d416dc217bde1326c650c1fd0ecce4358cc2b2a4eb7756da268ff4d18a9", func := "humpyard/humpyardlaw12.CodeExact", spec := "codeExact", apart := false, narrowed := true }
def CodeExactUptoSaid : Prop := codeExactUptoRow.holds Try.pinned (OpenSpec.upto codeExactSpec)

/-- 'humpyardlaw12.CodeNext', WHERE WHAT IT READS IS OF BULK AT MOST 1048576: true; the input reads as it did. -/
def codeNextUptoRow : OpenClaim := { program := "ytbdcegbfmpkmhaa", sum := "fdaf9d416dc217bde1326c650c1fd0ecce4358cc2b2a4eb7756da268ff4d18a9", func := "humpyard/humpyardlaw12.CodeNext", spec := "codeNext", apart := false, narrowed := true }
def CodeNextUptoSaid : Prop := codeNextUptoRow.holds Try.pinned (OpenSpec.upto codeNextSpec)

/-- 'humpyardlaw12.CodeRanks', WHERE WHAT IT READS IS OF BULK AT MOST 1048576: true; the input reads as it did. -/
def codeRanksUptoRow : OpenClaim := { program := "ytbdcegbfmpkmhaa", sum := "fdaf9d416dc217bde1326c650c1fd0ecce4358cc2b2a4eb7756da268ff4d18a9", func := "humpyard/humpyardlaw12.CodeRanks", spec := "codeRanks", apart := false, narrowed := true }
def CodeRanksUptoSaid : Prop := codeRanksUptoRow.holds Try.pinned (OpenSpec.upto codeRanksSpec)

/-- 'humpyardlaw12.CodeCounts', WHERE WHAT IT READS IS OF BULK AT MOST 1048576: true; the input reads as it did. -/
def codeCountsUptoRow : OpenClaim := { program := "ytbdcegbfmpkmhaa", sum := "fdaf9d416dc217bde1326c650c1fd0ecce4358cc2b2a4eb7756da268ff4d18a9", func := "humpyard/humpyardlaw12.CodeCounts", spec := "codeCounts", apart := false, narrowed := true }
def CodeCountsUptoSaid : Prop := codeCountsUptoRow.holds Try.pinned (OpenSpec.upto codeCountsSpec)

/-- 'humpyardlaw12.CodeRounds', WHERE WHAT IT READS IS OF BULK AT MOST 1048576: true; the input reads as it did. -/
def codeRoundsUptoRow : OpenClaim := { program := "ytbdcegbfmpkmhaa", sum := "fdaf9d416dc217bde1326c650c1fd0ecce4358cc2b2a4eb7756da268ff4d18a9", func := "humpyard/humpyardlaw12.CodeRounds", spec := "codeRounds", apart := false, narrowed := true }
def CodeRoundsUptoSaid : Prop := codeRoundsUptoRow.holds Try.pinned (OpenSpec.upto codeRoundsSpec)

/-- 'humpyardlaw12.CodeReal', WHERE WHAT IT READS IS OF BULK AT MOST 1048576: true; the input reads as it did. -/
def codeRealUptoRow : OpenClaim := { program := "ytbdcegbfmpkmhaa", sum := "fdaf9d416dc217bde1326c650c1fd0ecce4358cc2b2a4eb7756da268ff4d18a9", func := "humpyard/humpyardlaw12.CodeReal", spec := "codeReal", apart := false, narrowed := true }
def CodeRealUptoSaid : Prop := codeRealUptoRow.holds Try.pinned (OpenSpec.upto codeRealSpec)

end Rows
end Go.Proofs.Ytbdcegbfmpkmhaa
