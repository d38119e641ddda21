/-
  No cell of these rows narrows 'for every input' (looked for: loops, veiled, ifaces, maps, wideKeys, modest, calm, conditions, laid).
  DERIVED. THE GIVEN ROWS OF THIS SEAT. 6 by the template 'for every input the law returns true; each argument reads behind the call as it read before'; 0 by the template 'total and deterministic' (their statements: YtdgekianmkgeiaaTotals.lean).
  GIVEN WITH THE SEED: the statements are not yours to turn. If you find one false, say at which input.
  Laid BY PROGRAM, IN A SANDBOX (cutbox-rows.mjs): the forced cells as the released guide's own fill.sh prints them over the translation 6255d3af3ba27e1e… (all of the seat's roots in one cut). By AI agents, Wed Nov 11 2026. No macro, syntax, notation, axiom, sorry.
-/
import Derived.Test.YtdgekianmkgeiaaChecked
import GoSem.Claim
import GoSem.ClaimJoined
import GoSem.ClaimMapViews
import Derived.JoinedTies
import Derived.KernelRfl
namespace Go.Proofs.Ytdgekianmkgeiaa
/- THE CELL 'sum', in the pinned program and in every row, IS THE sha256 OF THE DUMP (.gsa) THAT YtdgekianmkgeiaaProg.lean LOADS. Nothing in Lean hashes anything: it is a label: what it is worth is what the hold of that sum in a sandbox is worth. -/
noncomputable def Try.pinned : Pinned := { name := "ytdgekianmkgeiaa", sum := "6255d3af3ba27e1e223c1f35842d528a536f7bb6e80b2030d44df54320bc6216", checked := Try.checked }
namespace Rows
def none {H : Type} : Left H := { results := [], args := [] }

/-- 'humpyardlaw06.ConsistExact': WHATEVER THE INPUT: true; the input reads as it did. -/
def consistExactSpec : ChangeSpec := { name := "consistExact", fn := fun _ => fun
  | [d1, d2, d3] => { results := [.lit (.bool true)], args := [d1, d2, d3] }
  | _ => none }
def consistExactRow : OpenClaim := { program := "ytdgekianmkgeiaa", sum := "6255d3af3ba27e1e223c1f35842d528a536f7bb6e80b2030d44df54320bc6216", func := "humpyard/humpyardlaw06.ConsistExact", spec := "consistExact", apart := false }
def ConsistExactSaid : Prop := consistExactRow.holds Try.pinned (OpenSpec.ofChange consistExactSpec)

/-- ITS FALSE NEIGHBOUR: 'it returns false'. Refute it at one input. -/
def consistExactWrong : ChangeSpec := { name := "consistExact", fn := fun _ => fun
  | [d1, d2, d3] => { results := [.lit (.bool false)], args := [d1, d2, d3] }
  | _ => none }
def ConsistExactWrongFalsely : Prop := consistExactRow.holds Try.pinned (OpenSpec.ofChange consistExactWrong)

/-- 'humpyardlaw06.ConsistReturns': WHATEVER THE INPUT: true; the input reads as it did. -/
def consistReturnsSpec : ChangeSpec := { name := "consistReturns", fn := fun _ => fun
  | [d1, d2] => { results := [.lit (.bool true)], args := [d1, d2] }
  | _ => none }
def consistReturnsRow : OpenClaim := { program := "ytdgekianmkgeiaa", sum := "6255d3af3ba27e1e223c1f35842d528a536f7bb6e80b2030d44df54320bc6216", func := "humpyard/humpyardlaw06.ConsistReturns", spec := "consistReturns", apart := false }
def ConsistReturnsSaid : Prop := consistReturnsRow.holds Try.pinned (OpenSpec.ofChange consistReturnsSpec)

/-- ITS FALSE NEIGHBOUR: 'it returns false'. Refute it at one input. -/
def consistReturnsWrong : ChangeSpec := { name := "consistReturns", fn := fun _ => fun
  | [d1, d2] => { results := [.lit (.bool false)], args := [d1, d2] }
  | _ => none }
def ConsistReturnsWrongFalsely : Prop := consistReturnsRow.holds Try.pinned (OpenSpec.ofChange consistReturnsWrong)

/-- 'humpyardlaw06.ConsistOneByte': WHATEVER THE INPUT: true; the input reads as it did. -/
def consistOneByteSpec : ChangeSpec := { name := "consistOneByte", fn := fun _ => fun
  | [d1, d2, d3] => { results := [.lit (.bool true)], args := [d1, d2, d3] }
  | _ => none }
def consistOneByteRow : OpenClaim := { program := "ytdgekianmkgeiaa", sum := "6255d3af3ba27e1e223c1f35842d528a536f7bb6e80b2030d44df54320bc6216", func := "humpyard/humpyardlaw06.ConsistOneByte", spec := "consistOneByte", apart := false }
def ConsistOneByteSaid : Prop := consistOneByteRow.holds Try.pinned (OpenSpec.ofChange consistOneByteSpec)

/-- ITS FALSE NEIGHBOUR: 'it returns false'. Refute it at one input. -/
def consistOneByteWrong : ChangeSpec := { name := "consistOneByte", fn := fun _ => fun
  | [d1, d2, d3] => { results := [.lit (.bool false)], args := [d1, d2, d3] }
  | _ => none }
def ConsistOneByteWrongFalsely : Prop := consistOneByteRow.holds Try.pinned (OpenSpec.ofChange consistOneByteWrong)

/-- 'humpyardlaw06.ConsistExchange': WHATEVER THE INPUT: true; the input reads as it did. -/
def consistExchangeSpec : ChangeSpec := { name := "consistExchange", fn := fun _ => fun
  | [d1, d2, d3] => { results := [.lit (.bool true)], args := [d1, d2, d3] }
  | _ => none }
def consistExchangeRow : OpenClaim := { program := "ytdgekianmkgeiaa", sum := "6255d3af3ba27e1e223c1f35842d528a536f7bb6e80b2030d44df54320bc6216", func := "humpyard/humpyardlaw06.ConsistExchange", spec := "consistExchange", apart := false }
def ConsistExchangeSaid : Prop := consistExchangeRow.holds Try.pinned (OpenSpec.ofChange consistExchangeSpec)

/-- ITS FALSE NEIGHBOUR: 'it returns false'. Refute it at one input. -/
def consistExchangeWrong : ChangeSpec := { name := "consistExchange", fn := fun _ => fun
  | [d1, d2, d3] => { results := [.lit (.bool false)], args := [d1, d2, d3] }
  | _ => none }
def ConsistExchangeWrongFalsely : Prop := consistExchangeRow.holds Try.pinned (OpenSpec.ofChange consistExchangeWrong)

/-- 'humpyardlaw06.ConsistTotals': WHATEVER THE INPUT: true; the input reads as it did. -/
def consistTotalsSpec : ChangeSpec := { name := "consistTotals", fn := fun _ => fun
  | [d1, d2] => { results := [.lit (.bool true)], args := [d1, d2] }
  | _ => none }
def consistTotalsRow : OpenClaim := { program := "ytdgekianmkgeiaa", sum := "6255d3af3ba27e1e223c1f35842d528a536f7bb6e80b2030d44df54320bc6216", func := "humpyard/humpyardlaw06.ConsistTotals", spec := "consistTotals", apart := false }
def ConsistTotalsSaid : Prop := consistTotalsRow.holds Try.pinned (OpenSpec.ofChange consistTotalsSpec)

/-- ITS FALSE NEIGHBOUR: 'it returns false'. Refute it at one input. -/
def consistTotalsWrong : ChangeSpec := { name := "consistTotals", fn := fun _ => fun
  | [d1, d2] => { results := [.lit (.bool false)], args := [d1, d2] }
  | _ => none }
def ConsistTotalsWrongFalsely : Prop := consistTotalsRow.holds Try.pinned (OpenSpec.ofChange consistTotalsWrong)

/-- 'humpyardlaw06.ConsistLimit': WHATEVER THE INPUT: true; the input reads as it did. -/
def consistLimitSpec : ChangeSpec := { name := "consistLimit", fn := fun _ => fun
  | [d1, d2, d3] => { results := [.lit (.bool true)], args := [d1, d2, d3] }
  | _ => none }
def consistLimitRow : OpenClaim := { program := "ytdgekianmkgeiaa", sum := "6255d3af3ba27e1e223c1f35842d528a536f7bb6e80b2030d44df54320bc6216", func := "humpyard/humpyardlaw06.ConsistLimit", spec := "consistLimit", apart := false }
def ConsistLimitSaid : Prop := consistLimitRow.holds Try.pinned (OpenSpec.ofChange consistLimitSpec)

/-- ITS FALSE NEIGHBOUR: 'it returns false'. Refute it at one input. -/
def consistLimitWrong : ChangeSpec := { name := "consistLimit", fn := fun _ => fun
  | [d1, d2, d3] => { results := [.lit (.bool false)], args := [d1, d2, d3] }
  | _ => none }
def ConsistLimitWrongFalsely : Prop := consistLimitRow.holds Try.pinned (OpenSpec.ofChange consistLimitWrong)

/- THE SECOND FORM. 'bulk': how many values and letters a reading holds, each counted each time it is reached (what is shared counts as often as it is met; a slice's spare places count too). A statement '..UptoSaid' is the law's where the arguments, and the package variables that the reading takes, are together of bulk at most 1048576: NARROWER than '..Said'. Prove '..Said' where nothing that the law and all that it calls make is longer than what came in: it says more and counts as full. Else prove '..UptoSaid'. A law counts once. -/
mutual
def uptoBulk {H : Type} : DataW H → Nat
  | .lit (.string bytes) => bytes.length + 1
  | .lit _ => 1
  | .nil => 1
  | .ptr d => uptoBulk d + 1
  | .slice elems spare => uptoBulkAll elems + uptoBulkAll spare + 1
  | .agg parts => uptoBulkAll parts + 1
  | .iface _ d => uptoBulk d + 1
  | .map entries => uptoBulkEntries entries + 1
  | .held _ => 1
def uptoBulkAll {H : Type} : List (DataW H) → Nat
  | [] => 0
  | d :: r => uptoBulk d + uptoBulkAll r
def uptoBulkEntries {H : Type} : List (Lit × DataW H) → Nat
  | [] => 0
  | x :: r => uptoBulkEntry x + uptoBulkEntries r
def uptoBulkEntry {H : Type} : Lit × DataW H → Nat
  | (.string bytes, d) => bytes.length + uptoBulk d + 1
  | (_, d) => uptoBulk d + 1
 end
def uptoSmall : (H : Type) → List (DataW H) → Bool := fun _ ds => decide (uptoBulkAll ds ≤ 1048576)
def OpenSpec.upto (s : _root_.Go.ChangeSpec) : _root_.Go.OpenSpec := { _root_.Go.OpenSpec.ofChange s with cond := some uptoSmall }

/-- 'humpyardlaw06.ConsistExact', WHERE WHAT IT READS IS OF BULK AT MOST 1048576: true; the input reads as it did. -/
def consistExactUptoRow : OpenClaim := { program := "ytdgekianmkgeiaa", sum := "6255d3af3ba27e1e223c1f35842d528a536f7bb6e80b2030d44df54320bc6216", func := "humpyard/humpyardlaw06.ConsistExact", spec := "consistExact", apart := false, narrowed := true }
def ConsistExactUptoSaid : Prop := consistExactUptoRow.holds Try.pinned (OpenSpec.upto consistExactSpec)

/-- 'humpyardlaw06.ConsistReturns', WHERE WHAT IT READS IS OF BULK AT MOST 1048576: true; the input reads as it did. -/
def consistReturnsUptoRow : OpenClaim := { program := "ytdgekianmkgeiaa", sum := "6255d3af3ba27e1e223c1f35842d528a536f7bb6e80b2030d44df54320bc6216", func := "humpyard/humpyardlaw06.ConsistReturns", spec := "consistReturns", apart := false, narrowed := true }
def ConsistReturnsUptoSaid : Prop := consistReturnsUptoRow.holds Try.pinned (OpenSpec.upto consistReturnsSpec)

/-- 'humpyardlaw06.ConsistOneByte', WHERE WHAT IT READS IS OF BULK AT MOST 1048576: true; the input reads as it did. -/
def consistOneByteUptoRow : OpenClaim := { program := "ytdgekianmkgeiaa", sum := "6255d3af3ba27e1e223c1f35842d528a536f7bb6e80b2030d44df54320bc6216", func := "humpyard/humpyardlaw06.ConsistOneByte", spec := "consistOneByte", apart := false, narrowed := true }
def ConsistOneByteUptoSaid : Prop := consistOneByteUptoRow.holds Try.pinned (OpenSpec.upto consistOneByteSpec)

/-- 'humpyardlaw06.ConsistExchange', WHERE WHAT IT READS IS OF BULK AT MOST 1048576: true; the input reads as it did. -/
def consistExchangeUptoRow : OpenClaim := { program := "ytdgekianmkgeiaa", sum := "6255d3af3ba27e1e223c1f35842d528a536f7bb6e80b2030d44df54320bc6216", func := "humpyard/humpyardlaw06.ConsistExchange", spec := "consistExchange", apart := false, narrowed := true }
def ConsistExchangeUptoSaid : Prop := consistExchangeUptoRow.holds Try.pinned (OpenSpec.upto consistExchangeSpec)

/-- 'humpyardlaw06.ConsistTotals', WHERE WHAT IT READS IS OF BULK AT MOST 1048576: true; the input reads as it did. -/
def consistTotalsUptoRow : OpenClaim := { program := "ytdgekianmkgeiaa", sum := "6255d3af3ba27e1e223c1f35842d528a536f7bb6e80b2030d44df54320bc6216", func := "humpyard/humpyardlaw06.ConsistTotals", spec := "consistTotals", apart := false, narrowed := true }
def ConsistTotalsUptoSaid : Prop := consistTotalsUptoRow.holds Try.pinned (OpenSpec.upto consistTotalsSpec)

/-- 'humpyardlaw06.ConsistLimit', WHERE WHAT IT READS IS OF BULK AT MOST 1048576: true; the input reads as it did. -/
def consistLimitUptoRow : OpenClaim := { program := "ytdgekianmkgeiaa", sum := "6255d3af3ba27e1e223c1f35842d528a536f7bb6e80b2030d44df54320bc6216", func := "humpyard/humpyardlaw06.ConsistLimit", spec := "consistLimit", apart := false, narrowed := true }
def ConsistLimitUptoSaid : Prop := consistLimitUptoRow.holds Try.pinned (OpenSpec.upto consistLimitSpec)

end Rows
end Go.Proofs.Ytdgekianmkgeiaa
