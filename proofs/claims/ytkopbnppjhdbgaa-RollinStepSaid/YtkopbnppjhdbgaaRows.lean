/-
  No cell of these rows narrows 'for every input' (looked for: loops, veiled, ifaces, maps, wideKeys, modest, calm, conditions, laid).
  DERIVED. THE GIVEN ROWS OF THIS SEAT. 8 by the template 'for every input the law returns true; each argument reads behind the call as it read before'; 0 by the template 'total and deterministic' (their statements: YtkopbnppjhdbgaaTotals.lean).
  GIVEN WITH THE SEED: the statements are not yours to turn. If you find one false, say at which input.
  Laid BY PROGRAM, IN A SANDBOX (cutbox-rows.mjs): the forced cells as the released guide's own fill.sh prints them over the translation e711078b5bc5f893… (all of the seat's roots in one cut). By AI agents, Wed Nov 11 2026. No macro, syntax, notation, axiom, sorry.
-/
import Derived.Test.YtkopbnppjhdbgaaChecked
import GoSem.Claim
import GoSem.ClaimJoined
import GoSem.ClaimMapViews
import Derived.JoinedTies
import Derived.KernelRfl
namespace Go.Proofs.Ytkopbnppjhdbgaa
/- THE CELL 'sum', in the pinned program and in every row, IS THE sha256 OF THE DUMP (.gsa) THAT YtkopbnppjhdbgaaProg.lean LOADS. Nothing in Lean hashes anything: it is a label: what it is worth is what the hold of that sum in a sandbox is worth. -/
noncomputable def Try.pinned : Pinned := { name := "ytkopbnppjhdbgaa", sum := "e711078b5bc5f893ddfaefffc593acb6d14a4bd737f6230d45c7822e000831a9", checked := Try.checked }
namespace Rows
def none {H : Type} : Left H := { results := [], args := [] }

/-- 'humpyardlaw14.RollinAll': WHATEVER THE INPUT: true; the input reads as it did. -/
def rollinAllSpec : ChangeSpec := { name := "rollinAll", fn := fun _ => fun
  | [d1, d2] => { results := [.lit (.bool true)], args := [d1, d2] }
  | _ => none }
def rollinAllRow : OpenClaim := { program := "ytkopbnppjhdbgaa", sum := "e711078b5bc5f893ddfaefffc593acb6d14a4bd737f6230d45c7822e000831a9", func := "humpyard/humpyardlaw14.RollinAll", spec := "rollinAll", apart := false }
def RollinAllSaid : Prop := rollinAllRow.holds Try.pinned (OpenSpec.ofChange rollinAllSpec)

/-- ITS FALSE NEIGHBOUR: 'it returns false'. Refute it at one input. -/
def rollinAllWrong : ChangeSpec := { name := "rollinAll", fn := fun _ => fun
  | [d1, d2] => { results := [.lit (.bool false)], args := [d1, d2] }
  | _ => none }
def RollinAllWrongFalsely : Prop := rollinAllRow.holds Try.pinned (OpenSpec.ofChange rollinAllWrong)

/-- 'humpyardlaw14.RollinExact': WHATEVER THE INPUT: true; the input reads as it did. -/
def rollinExactSpec : ChangeSpec := { name := "rollinExact", fn := fun _ => fun
  | [d1, d2, d3, d4] => { results := [.lit (.bool true)], args := [d1, d2, d3, d4] }
  | _ => none }
def rollinExactRow : OpenClaim := { program := "ytkopbnppjhdbgaa", sum := "e711078b5bc5f893ddfaefffc593acb6d14a4bd737f6230d45c7822e000831a9", func := "humpyard/humpyardlaw14.RollinExact", spec := "rollinExact", apart := false }
def RollinExactSaid : Prop := rollinExactRow.holds Try.pinned (OpenSpec.ofChange rollinExactSpec)

/-- ITS FALSE NEIGHBOUR: 'it returns false'. Refute it at one input. -/
def rollinExactWrong : ChangeSpec := { name := "rollinExact", fn := fun _ => fun
  | [d1, d2, d3, d4] => { results := [.lit (.bool false)], args := [d1, d2, d3, d4] }
  | _ => none }
def RollinExactWrongFalsely : Prop := rollinExactRow.holds Try.pinned (OpenSpec.ofChange rollinExactWrong)

/-- 'humpyardlaw14.RollinOrder': WHATEVER THE INPUT: true; the input reads as it did. -/
def rollinOrderSpec : ChangeSpec := { name := "rollinOrder", fn := fun _ => fun
  | [d] => { results := [.lit (.bool true)], args := [d] }
  | _ => none }
def rollinOrderRow : OpenClaim := { program := "ytkopbnppjhdbgaa", sum := "e711078b5bc5f893ddfaefffc593acb6d14a4bd737f6230d45c7822e000831a9", func := "humpyard/humpyardlaw14.RollinOrder", spec := "rollinOrder", apart := false }
def RollinOrderSaid : Prop := rollinOrderRow.holds Try.pinned (OpenSpec.ofChange rollinOrderSpec)

/-- ITS FALSE NEIGHBOUR: 'it returns false'. Refute it at one input. -/
def rollinOrderWrong : ChangeSpec := { name := "rollinOrder", fn := fun _ => fun
  | [d] => { results := [.lit (.bool false)], args := [d] }
  | _ => none }
def RollinOrderWrongFalsely : Prop := rollinOrderRow.holds Try.pinned (OpenSpec.ofChange rollinOrderWrong)

/-- 'humpyardlaw14.RollinSorts': WHATEVER THE INPUT: true; the input reads as it did. -/
def rollinSortsSpec : ChangeSpec := { name := "rollinSorts", fn := fun _ => fun
  | [d] => { results := [.lit (.bool true)], args := [d] }
  | _ => none }
def rollinSortsRow : OpenClaim := { program := "ytkopbnppjhdbgaa", sum := "e711078b5bc5f893ddfaefffc593acb6d14a4bd737f6230d45c7822e000831a9", func := "humpyard/humpyardlaw14.RollinSorts", spec := "rollinSorts", unfollowed := true, recurses := true, apart := false }
def RollinSortsSaid : Prop := rollinSortsRow.holds Try.pinned (OpenSpec.ofChange rollinSortsSpec)

/-- ITS FALSE NEIGHBOUR: 'it returns false'. Refute it at one input. -/
def rollinSortsWrong : ChangeSpec := { name := "rollinSorts", fn := fun _ => fun
  | [d] => { results := [.lit (.bool false)], args := [d] }
  | _ => none }
def RollinSortsWrongFalsely : Prop := rollinSortsRow.holds Try.pinned (OpenSpec.ofChange rollinSortsWrong)

/-- 'humpyardlaw14.RollinTrack': WHATEVER THE INPUT: true; the input reads as it did. -/
def rollinTrackSpec : ChangeSpec := { name := "rollinTrack", fn := fun _ => fun
  | [d] => { results := [.lit (.bool true)], args := [d] }
  | _ => none }
def rollinTrackRow : OpenClaim := { program := "ytkopbnppjhdbgaa", sum := "e711078b5bc5f893ddfaefffc593acb6d14a4bd737f6230d45c7822e000831a9", func := "humpyard/humpyardlaw14.RollinTrack", spec := "rollinTrack", apart := false }
def RollinTrackSaid : Prop := rollinTrackRow.holds Try.pinned (OpenSpec.ofChange rollinTrackSpec)

/-- ITS FALSE NEIGHBOUR: 'it returns false'. Refute it at one input. -/
def rollinTrackWrong : ChangeSpec := { name := "rollinTrack", fn := fun _ => fun
  | [d] => { results := [.lit (.bool false)], args := [d] }
  | _ => none }
def RollinTrackWrongFalsely : Prop := rollinTrackRow.holds Try.pinned (OpenSpec.ofChange rollinTrackWrong)

/-- 'humpyardlaw14.RollinMoves': WHATEVER THE INPUT: true; the input reads as it did. -/
def rollinMovesSpec : ChangeSpec := { name := "rollinMoves", fn := fun _ => fun
  | [d] => { results := [.lit (.bool true)], args := [d] }
  | _ => none }
def rollinMovesRow : OpenClaim := { program := "ytkopbnppjhdbgaa", sum := "e711078b5bc5f893ddfaefffc593acb6d14a4bd737f6230d45c7822e000831a9", func := "humpyard/humpyardlaw14.RollinMoves", spec := "rollinMoves", apart := false }
def RollinMovesSaid : Prop := rollinMovesRow.holds Try.pinned (OpenSpec.ofChange rollinMovesSpec)

/-- ITS FALSE NEIGHBOUR: 'it returns false'. Refute it at one input. -/
def rollinMovesWrong : ChangeSpec := { name := "rollinMoves", fn := fun _ => fun
  | [d] => { results := [.lit (.bool false)], args := [d] }
  | _ => none }
def RollinMovesWrongFalsely : Prop := rollinMovesRow.holds Try.pinned (OpenSpec.ofChange rollinMovesWrong)

/-- 'humpyardlaw14.RollinPushes': WHATEVER THE INPUT: true; the input reads as it did. -/
def rollinPushesSpec : ChangeSpec := { name := "rollinPushes", fn := fun _ => fun
  | [d] => { results := [.lit (.bool true)], args := [d] }
  | _ => none }
def rollinPushesRow : OpenClaim := { program := "ytkopbnppjhdbgaa", sum := "e711078b5bc5f893ddfaefffc593acb6d14a4bd737f6230d45c7822e000831a9", func := "humpyard/humpyardlaw14.RollinPushes", spec := "rollinPushes", unfollowed := true, recurses := true, apart := false }
def RollinPushesSaid : Prop := rollinPushesRow.holds Try.pinned (OpenSpec.ofChange rollinPushesSpec)

/-- ITS FALSE NEIGHBOUR: 'it returns false'. Refute it at one input. -/
def rollinPushesWrong : ChangeSpec := { name := "rollinPushes", fn := fun _ => fun
  | [d] => { results := [.lit (.bool false)], args := [d] }
  | _ => none }
def RollinPushesWrongFalsely : Prop := rollinPushesRow.holds Try.pinned (OpenSpec.ofChange rollinPushesWrong)

/-- 'humpyardlaw14.RollinStep': WHATEVER THE INPUT: true; the input reads as it did. -/
def rollinStepSpec : ChangeSpec := { name := "rollinStep", fn := fun _ => fun
  | [d1, d2] => { results := [.lit (.bool true)], args := [d1, d2] }
  | _ => none }
def rollinStepRow : OpenClaim := { program := "ytkopbnppjhdbgaa", sum := "e711078b5bc5f893ddfaefffc593acb6d14a4bd737f6230d45c7822e000831a9", func := "humpyard/humpyardlaw14.RollinStep", spec := "rollinStep", apart := false }
def RollinStepSaid : Prop := rollinStepRow.holds Try.pinned (OpenSpec.ofChange rollinStepSpec)

/-- ITS FALSE NEIGHBOUR: 'it returns false'. Refute it at one input. -/
def rollinStepWrong : ChangeSpec := { name := "rollinStep", fn := fun _ => fun
  | [d1, d2] => { results := [.lit (.bool false)], args := [d1, d2] }
  | _ => none }
def RollinStepWrongFalsely : Prop := rollinStepRow.holds Try.pinned (OpenSpec.ofChange rollinStepWrong)

/- THE SECOND FORM. 'bulk': how many values and letters a reading holds, each counted each time it is reached (what is shared counts as often as it is met; a slice's spare places count too). A statement '..UptoSaid' is the law's where the arguments, and the package variables that the reading takes, are together of bulk at most 1048576: NARROWER than '..Said'. Prove '..Said' where nothing that the law and all that it calls make is longer than what came in: it says more and counts as full. Else prove '..UptoSaid'. A law counts once. -/
mutual
def uptoBulk {H : Type} : DataW H → Nat
  | .lit (.string bytes) => bytes.length + 1
  | .lit _ => 1
  | .nil => 1
  | .ptr d => uptoBulk d + 1
  | .slice elems spare => uptoBulkAll elems + uptoBulkAll spare + 1
  | .agg parts => uptoBulkAll parts + 1
  | .iface _ d => uptoBulk d + 1
  | .map entries => uptoBulkEntries entries + 1
  | .held _ => 1
def uptoBulkAll {H : Type} : List (DataW H) → Nat
  | [] => 0
  | d :: r => uptoBulk d + uptoBulkAll r
def uptoBulkEntries {H : Type} : List (Lit × DataW H) → Nat
  | [] => 0
  | x :: r => uptoBulkEntry x + uptoBulkEntries r
def uptoBulkEntry {H : Type} : Lit × DataW H → Nat
  | (.string bytes, d) => bytes.length + uptoBulk d + 1
  | (_, d) => uptoBulk d + 1
 end
def uptoSmall : (H : Type) → List (DataW H) → Bool := fun _ ds => decide (uptoBulkAll ds ≤ 1048576)
def OpenSpec.upto (s : _root_.Go.ChangeSpec) : _root_.Go.OpenSpec := { _root_.Go.OpenSpec.ofChange s with cond := some uptoSmall }

/-- 'humpyardlaw14.RollinAll', WHERE WHAT IT READS IS OF BULK AT MOST 1048576: true; the input reads as it did. -/
def rollinAllUptoRow : OpenClaim := { program := "ytkopbnppjhdbgaa", sum := "e711078b5bc5f893ddfaefffc593acb6d14a4bd737f6230d45c7822e000831a9", func := "humpyard/humpyardlaw14.RollinAll", spec := "rollinAll", apart := false, narrowed := true }
def RollinAllUptoSaid : Prop := rollinAllUptoRow.holds Try.pinned (OpenSpec.upto rollinAllSpec)

/-- 'humpyardlaw14.RollinExact', WHERE WHAT IT READS IS OF BULK AT MOST 1048576: true; the input reads as it did. -/
def rollinExactUptoRow : OpenClaim := { program := "ytkopbnppjhdbgaa", sum := "e711078b5bc5f893ddfaefffc593acb6d14a4bd737f6230d45c7822e000831a9", func := "humpyard/humpyardlaw14.RollinExact", spec := "rollinExact", apart := false, narrowed := true }
def RollinExactUptoSaid : Prop := rollinExactUptoRow.holds Try.pinned (OpenSpec.upto rollinExactSpec)

/-- 'humpyardlaw14.RollinOrder', WHERE WHAT IT READS IS OF BULK AT MOST 1048576: true; the input reads as it did. -/
def rollinOrderUptoRow : OpenClaim := { program := "ytkopbnppjhdbgaa", sum := "e711078b5bc5f893ddfaefffc593acb6d14a4bd737f6230d45c7822e000831a9", func := "humpyard/humpyardlaw14.RollinOrder", spec := "rollinOrder", apart := false, narrowed := true }
def RollinOrderUptoSaid : Prop := rollinOrderUptoRow.holds Try.pinned (OpenSpec.upto rollinOrderSpec)

/-- 'humpyardlaw14.RollinSorts', WHERE WHAT IT READS IS OF BULK AT MOST 1048576: true; the input reads as it did. -/
def rollinSortsUptoRow : OpenClaim := { program := "ytkopbnppjhdbgaa", sum := "e711078b5bc5f893ddfaefffc593acb6d14a4bd737f6230d45c7822e000831a9", func := "humpyard/humpyardlaw14.RollinSorts", spec := "rollinSorts", unfollowed := true, recurses := true, apart := false, narrowed := true }
def RollinSortsUptoSaid : Prop := rollinSortsUptoRow.holds Try.pinned (OpenSpec.upto rollinSortsSpec)

/-- 'humpyardlaw14.RollinTrack', WHERE WHAT IT READS IS OF BULK AT MOST 1048576: true; the input reads as it did. -/
def rollinTrackUptoRow : OpenClaim := { program := "ytkopbnppjhdbgaa", sum := "e711078b5bc5f893ddfaefffc593acb6d14a4bd737f6230d45c7822e000831a9", func := "humpyard/humpyardlaw14.RollinTrack", spec := "rollinTrack", apart := false, narrowed := true }
def RollinTrackUptoSaid : Prop := rollinTrackUptoRow.holds Try.pinned (OpenSpec.upto rollinTrackSpec)

/-- 'humpyardlaw14.RollinMoves', WHERE WHAT IT READS IS OF BULK AT MOST 1048576: true; the input reads as it did. -/
def rollinMovesUptoRow : OpenClaim := { program := "ytkopbnppjhdbgaa", sum := "e711078b5bc5f893ddfaefffc593acb6d14a4bd737f6230d45c7822e000831a9", func := "humpyard/humpyardlaw14.RollinMoves", spec := "rollinMoves", apart := false, narrowed := true }
def RollinMovesUptoSaid : Prop := rollinMovesUptoRow.holds Try.pinned (OpenSpec.upto rollinMovesSpec)

/-- 'humpyardlaw14.RollinPushes', WHERE WHAT IT READS IS OF BULK AT MOST 1048576: true; the input reads as it did. -/
def rollinPushesUptoRow : OpenClaim := { program := "ytkopbnppjhdbgaa", sum := "e711078b5bc5f893ddfaefffc593acb6d14a4bd737f6230d45c7822e000831a9", func := "humpyard/humpyardlaw14.RollinPushes", spec := "rollinPushes", unfollowed := true, recurses := true, apart := false, narrowed := true }
def RollinPushesUptoSaid : Prop := rollinPushesUptoRow.holds Try.pinned (OpenSpec.upto rollinPushesSpec)

/-- 'humpyardlaw14.RollinStep', WHERE WHAT IT READS IS OF BULK AT MOST 1048576: true; the input reads as it did. -/
def rollinStepUptoRow : OpenClaim := { program := "ytkopbnppjhdbgaa", sum := "e711078b5bc5f893ddfaefffc593acb6d14a4bd737f6230d45c7822e000831a9", func := "humpyard/humpyardlaw14.RollinStep", spec := "rollinStep", apart := false, narrowed := true }
def RollinStepUptoSaid : Prop := rollinStepUptoRow.holds Try.pinned (OpenSpec.upto rollinStepSpec)

end Rows
end Go.Proofs.Ytkopbnppjhdbgaa
