/-
  No cell of these rows narrows 'for every input' (looked for: loops, veiled, ifaces, maps, wideKeys, modest, calm, conditions, laid).
  DERIVED. THE GIVEN ROWS OF THIS SEAT. 6 by the template 'for every input the law returns true; each argument reads behind the call as it read before'; 0 by the template 'total and deterministic' (their statements: YtbnlaopmmgoalaaTotals.lean).
  GIVEN WITH THE SEED: the statements are not yours to turn. If you find one false, say at which input.
  Laid BY PROGRAM, IN A SANDBOX (cutbox-rows.mjs): the forced cells as the released guide's own fill.sh prints them over the translation a4ee307038019573… (all of the seat's roots in one cut). By AI agents, Wed Nov 11 2026. No macro, syntax, notation, axiom, sorry.
-/
import Derived.Test.YtbnlaopmmgoalaaChecked
import GoSem.Claim
import GoSem.ClaimJoined
import GoSem.ClaimMapViews
import Derived.JoinedTies
import Derived.KernelRfl
namespace Go.Proofs.Ytbnlaopmmgoalaa
/- THE CELL 'sum', in the pinned program and in every row, IS THE sha256 OF THE DUMP (.gsa) THAT YtbnlaopmmgoalaaProg.lean LOADS. Nothing in Lean hashes anything: it is a label: what it is worth is what the hold of that sum in a sandbox is worth. -/
noncomputable def Try.pinned : Pinned := { name := "ytbnlaopmmgoalaa", sum := "a4ee30703801957366df28f31477a70cec09471c2ce1e46f859daff1167b0582", checked := Try.checked }
namespace Rows
def none {H : Type} : Left H := { results := [], args := [] }

/-- 'humpyardlaw05.SectionLimits': WHATEVER THE INPUT: true; the input reads as it did. -/
def sectionLimitsSpec : ChangeSpec := { name := "sectionLimits", fn := fun _ => fun
  | [d1, d2] => { results := [.lit (.bool true)], args := [d1, d2] }
  | _ => none }
def sectionLimitsRow : OpenClaim := { program := "ytbnlaopmmgoalaa", sum := "a4ee30703801957366df28f31477a70cec09471c2ce1e46f859daff1167b0582", func := "humpyard/humpyardlaw05.SectionLimits", spec := "sectionLimits", plainKeys := false, apart := false }
def SectionLimitsSaid : Prop := sectionLimitsRow.holds Try.pinned (OpenSpec.ofChange sectionLimitsSpec)

/-- ITS FALSE NEIGHBOUR: 'it returns false'. Refute it at one input. -/
def sectionLimitsWrong : ChangeSpec := { name := "sectionLimits", fn := fun _ => fun
  | [d1, d2] => { results := [.lit (.bool false)], args := [d1, d2] }
  | _ => none }
def SectionLimitsWrongFalsely : Prop := sectionLimitsRow.holds Try.pinned (OpenSpec.ofChange sectionLimitsWrong)

/-- 'humpyardlaw05.SectionExact': WHATEVER THE INPUT: true; the input reads as it did. -/
def sectionExactSpec : ChangeSpec := { name := "sectionExact", fn := fun _ => fun
  | [d1, d2, d3, d4, d5] => { results := [.lit (.bool true)], args := [d1, d2, d3, d4, d5] }
  | _ => none }
def sectionExactRow : OpenClaim := { program := "ytbnlaopmmgoalaa", sum := "a4ee30703801957366df28f31477a70cec09471c2ce1e46f859daff1167b0582", func := "humpyard/humpyardlaw05.SectionExact", spec := "sectionExact", plainKeys := false, apart := false }
def SectionExactSaid : Prop := sectionExactRow.holds Try.pinned (OpenSpec.ofChange sectionExactSpec)

/-- ITS FALSE NEIGHBOUR: 'it returns false'. Refute it at one input. -/
def sectionExactWrong : ChangeSpec := { name := "sectionExact", fn := fun _ => fun
  | [d1, d2, d3, d4, d5] => { results := [.lit (.bool false)], args := [d1, d2, d3, d4, d5] }
  | _ => none }
def SectionExactWrongFalsely : Prop := sectionExactRow.holds Try.pinned (OpenSpec.ofChange sectionExactWrong)

/-- 'humpyardlaw05.SectionAdds': WHATEVER THE INPUT: true; the input reads as it did. -/
def sectionAddsSpec : ChangeSpec := { name := "sectionAdds", fn := fun _ => fun
  | [d1, d2] => { results := [.lit (.bool true)], args := [d1, d2] }
  | _ => none }
def sectionAddsRow : OpenClaim := { program := "ytbnlaopmmgoalaa", sum := "a4ee30703801957366df28f31477a70cec09471c2ce1e46f859daff1167b0582", func := "humpyard/humpyardlaw05.SectionAdds", spec := "sectionAdds", plainKeys := false, apart := false }
def SectionAddsSaid : Prop := sectionAddsRow.holds Try.pinned (OpenSpec.ofChange sectionAddsSpec)

/-- ITS FALSE NEIGHBOUR: 'it returns false'. Refute it at one input. -/
def sectionAddsWrong : ChangeSpec := { name := "sectionAdds", fn := fun _ => fun
  | [d1, d2] => { results := [.lit (.bool false)], args := [d1, d2] }
  | _ => none }
def SectionAddsWrongFalsely : Prop := sectionAddsRow.holds Try.pinned (OpenSpec.ofChange sectionAddsWrong)

/-- 'humpyardlaw05.SectionThrough': WHATEVER THE INPUT: true; the input reads as it did. -/
def sectionThroughSpec : ChangeSpec := { name := "sectionThrough", fn := fun _ => fun
  | [d] => { results := [.lit (.bool true)], args := [d] }
  | _ => none }
def sectionThroughRow : OpenClaim := { program := "ytbnlaopmmgoalaa", sum := "a4ee30703801957366df28f31477a70cec09471c2ce1e46f859daff1167b0582", func := "humpyard/humpyardlaw05.SectionThrough", spec := "sectionThrough", plainKeys := false, apart := false }
def SectionThroughSaid : Prop := sectionThroughRow.holds Try.pinned (OpenSpec.ofChange sectionThroughSpec)

/-- ITS FALSE NEIGHBOUR: 'it returns false'. Refute it at one input. -/
def sectionThroughWrong : ChangeSpec := { name := "sectionThrough", fn := fun _ => fun
  | [d] => { results := [.lit (.bool false)], args := [d] }
  | _ => none }
def SectionThroughWrongFalsely : Prop := sectionThroughRow.holds Try.pinned (OpenSpec.ofChange sectionThroughWrong)

/-- 'humpyardlaw05.SectionTrain': WHATEVER THE INPUT: true; the input reads as it did. -/
def sectionTrainSpec : ChangeSpec := { name := "sectionTrain", fn := fun _ => fun
  | [d1, d2] => { results := [.lit (.bool true)], args := [d1, d2] }
  | _ => none }
def sectionTrainRow : OpenClaim := { program := "ytbnlaopmmgoalaa", sum := "a4ee30703801957366df28f31477a70cec09471c2ce1e46f859daff1167b0582", func := "humpyard/humpyardlaw05.SectionTrain", spec := "sectionTrain", plainKeys := false, apart := false }
def SectionTrainSaid : Prop := sectionTrainRow.holds Try.pinned (OpenSpec.ofChange sectionTrainSpec)

/-- ITS FALSE NEIGHBOUR: 'it returns false'. Refute it at one input. -/
def sectionTrainWrong : ChangeSpec := { name := "sectionTrain", fn := fun _ => fun
  | [d1, d2] => { results := [.lit (.bool false)], args := [d1, d2] }
  | _ => none }
def SectionTrainWrongFalsely : Prop := sectionTrainRow.holds Try.pinned (OpenSpec.ofChange sectionTrainWrong)

/-- 'humpyardlaw05.SectionDisturbed': WHATEVER THE INPUT: true; the input reads as it did. -/
def sectionDisturbedSpec : ChangeSpec := { name := "sectionDisturbed", fn := fun _ => fun
  | [d] => { results := [.lit (.bool true)], args := [d] }
  | _ => none }
def sectionDisturbedRow : OpenClaim := { program := "ytbnlaopmmgoalaa", sum := "a4ee30703801957366df28f31477a70cec09471c2ce1e46f859daff1167b0582", func := "humpyard/humpyardlaw05.SectionDisturbed", spec := "sectionDisturbed", plainKeys := false, apart := false }
def SectionDisturbedSaid : Prop := sectionDisturbedRow.holds Try.pinned (OpenSpec.ofChange sectionDisturbedSpec)

/-- ITS FALSE NEIGHBOUR: 'it returns false'. Refute it at one input. -/
def sectionDisturbedWrong : ChangeSpec := { name := "sectionDisturbed", fn := fun _ => fun
  | [d] => { results := [.lit (.bool false)], args := [d] }
  | _ => none }
def SectionDisturbedWrongFalsely : Prop := sectionDisturbedRow.holds Try.pinned (OpenSpec.ofChange sectionDisturbedWrong)

/- THE SECOND FORM. 'bulk': how many values and letters a reading holds, each counted each time it is reached (what is shared counts as often as it is met; a slice's spare places count too). A statement '..UptoSaid' is the law's where the arguments, and the package variables that the reading takes, are together of bulk at most 1048576: NARROWER than '..Said'. Prove '..Said' where nothing that the law and all that it calls make is longer than what came in: it says more and counts as full. Else prove '..UptoSaid'. A law counts once. -/
mutual
def uptoBulk {H : Type} : DataW H → Nat
  | .lit (.string bytes) => bytes.length + 1
  | .lit _ => 1
  | .nil => 1
  | .ptr d => uptoBulk d + 1
  | .slice elems spare => uptoBulkAll elems + uptoBulkAll spare + 1
  | .agg parts => uptoBulkAll parts + 1
  | .iface _ d => uptoBulk d + 1
  | .map entries => uptoBulkEntries entries + 1
  | .held _ => 1
def uptoBulkAll {H : Type} : List (DataW H) → Nat
  | [] => 0
  | d :: r => uptoBulk d + uptoBulkAll r
def uptoBulkEntries {H : Type} : List (Lit × DataW H) → Nat
  | [] => 0
  | x :: r => uptoBulkEntry x + uptoBulkEntries r
def uptoBulkEntry {H : Type} : Lit × DataW H → Nat
  | (.string bytes, d) => bytes.length + uptoBulk d + 1
  | (_, d) => uptoBulk d + 1
 end
def uptoSmall : (H : Type) → List (DataW H) → Bool := fun _ ds => decide (uptoBulkAll ds ≤ 1048576)
def OpenSpec.upto (s : _root_.Go.ChangeSpec) : _root_.Go.OpenSpec := { _root_.Go.OpenSpec.ofChange s with cond := some uptoSmall }

/-- 'humpyardlaw05.SectionLimits', WHERE WHAT IT READS IS OF BULK AT MOST 1048576: true; the input reads as it did. -/
def sectionLimitsUptoRow : OpenClaim := { program := "ytbnlaopmmgoalaa", sum := "a4ee30703801957366df28f31477a70cec09471c2ce1e46f859daff1167b0582", func := "humpyard/humpyardlaw05.SectionLimits", spec := "sectionLimits", plainKeys := false, apart := false, narrowed := true }
def SectionLimitsUptoSaid : Prop := sectionLimitsUptoRow.holds Try.pinned (OpenSpec.upto sectionLimitsSpec)

/-- 'humpyardlaw05.SectionExact', WHERE WHAT IT READS IS OF BULK AT MOST 1048576: true; the input reads as it did. -/
def sectionExactUptoRow : OpenClaim := { program := "ytbnlaopmmgoalaa", sum := "a4ee30703801957366df28f31477a70cec09471c2ce1e46f859daff1167b0582", func := "humpyard/humpyardlaw05.SectionExact", spec := "sectionExact", plainKeys := false, apart := false, narrowed := true }
def SectionExactUptoSaid : Prop := sectionExactUptoRow.holds Try.pinned (OpenSpec.upto sectionExactSpec)

/-- 'humpyardlaw05.SectionAdds', WHERE WHAT IT READS IS OF BULK AT MOST 1048576: true; the input reads as it did. -/
def sectionAddsUptoRow : OpenClaim := { program := "ytbnlaopmmgoalaa", sum := "a4ee30703801957366df28f31477a70cec09471c2ce1e46f859daff1167b0582", func := "humpyard/humpyardlaw05.SectionAdds", spec := "sectionAdds", plainKeys := false, apart := false, narrowed := true }
def SectionAddsUptoSaid : Prop := sectionAddsUptoRow.holds Try.pinned (OpenSpec.upto sectionAddsSpec)

/-- 'humpyardlaw05.SectionThrough', WHERE WHAT IT READS IS OF BULK AT MOST 1048576: true; the input reads as it did. -/
def sectionThroughUptoRow : OpenClaim := { program := "ytbnlaopmmgoalaa", sum := "a4ee30703801957366df28f31477a70cec09471c2ce1e46f859daff1167b0582", func := "humpyard/humpyardlaw05.SectionThrough", spec := "sectionThrough", plainKeys := false, apart := false, narrowed := true }
def SectionThroughUptoSaid : Prop := sectionThroughUptoRow.holds Try.pinned (OpenSpec.upto sectionThroughSpec)

/-- 'humpyardlaw05.SectionTrain', WHERE WHAT IT READS IS OF BULK AT MOST 1048576: true; the input reads as it did. -/
def sectionTrainUptoRow : OpenClaim := { program := "ytbnlaopmmgoalaa", sum := "a4ee30703801957366df28f31477a70cec09471c2ce1e46f859daff1167b0582", func := "humpyard/humpyardlaw05.SectionTrain", spec := "sectionTrain", plainKeys := false, apart := false, narrowed := true }
def SectionTrainUptoSaid : Prop := sectionTrainUptoRow.holds Try.pinned (OpenSpec.upto sectionTrainSpec)

/-- 'humpyardlaw05.SectionDisturbed', WHERE WHAT IT READS IS OF BULK AT MOST 1048576: true; the input reads as it did. -/
def sectionDisturbedUptoRow : OpenClaim := { program := "ytbnlaopmmgoalaa", sum := "a4ee30703801957366df28f31477a70cec09471c2ce1e46f859daff1167b0582", func := "humpyard/humpyardlaw05.SectionDisturbed", spec := "sectionDisturbed", plainKeys := false, apart := false, narrowed := true }
def SectionDisturbedUptoSaid : Prop := sectionDisturbedUptoRow.holds Try.pinned (OpenSpec.upto sectionDisturbedSpec)

end Rows
end Go.Proofs.Ytbnlaopmmgoalaa
