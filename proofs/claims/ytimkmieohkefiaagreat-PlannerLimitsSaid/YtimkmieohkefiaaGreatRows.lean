/-
  No cell of these rows narrows 'for every input' (looked for: loops, veiled, ifaces, maps, wideKeys, modest, calm, conditions, laid).
  DERIVED. THE GIVEN ROWS OF THIS SEAT. 7 by the template 'for every input the law returns true; each argument reads behind the call as it read before'; 0 by the template 'total and deterministic' (their statements: YtimkmieohkefiaaGreatTotals.lean).
  GIVEN WITH THE SEED: the statements are not yours to turn. If you find one false, say at which input.
  Laid BY PROGRAM, IN A SANDBOX (cutbox-rows.mjs): the forced cells as the released guide's own fill.sh prints them over the translation 23230f59c128ed2d… (all of the seat's roots in one cut). By AI agents, Wed Nov 11 2026. No macro, syntax, notation, axiom, sorry.
-/
import Derived.Test.YtimkmieohkefiaaGreatChecked
import GoSem.Claim
import GoSem.ClaimJoined
import GoSem.ClaimMapViews
import Derived.JoinedTies
import Derived.KernelRfl
namespace Go.Proofs.YtimkmieohkefiaaGreat
/- THE CELL 'sum', in the pinned program and in every row, IS THE sha256 OF THE DUMP (.gsa) THAT YtimkmieohkefiaaGreatProg.lean LOADS. Nothing in Lean hashes anything: it is a label: what it is worth is what the hold of that sum in a sandbox is worth. -/
noncomputable def Tryz.pinned : Pinned := { name := "ytimkmieohkefiaagreat", sum := "23230f59c128ed2d7c2ac74a1268fb3e4eedbe76e5c49dca336b857db85fd62d", checked := Tryz.checked }
namespace Rows
def none {H : Type} : Left H := { results := [], args := [] }

/-- 'humpyardlaw17.PlannerLimits': WHATEVER THE INPUT: true; the input reads as it did. -/
def plannerLimitsSpec : ChangeSpec := { name := "plannerLimits", fn := fun _ => fun
  | [d1, d2, d3] => { results := [.lit (.bool true)], args := [d1, d2, d3] }
  | _ => none }
def plannerLimitsRow : OpenClaim := { program := "ytimkmieohkefiaagreat", sum := "23230f59c128ed2d7c2ac74a1268fb3e4eedbe76e5c49dca336b857db85fd62d", func := "humpyard/humpyardlaw17.PlannerLimits", spec := "plannerLimits", unfollowed := true, recurses := true, apart := false }
def PlannerLimitsSaid : Prop := plannerLimitsRow.holds Tryz.pinned (OpenSpec.ofChange plannerLimitsSpec)

/-- ITS FALSE NEIGHBOUR: 'it returns false'. Refute it at one input. -/
def plannerLimitsWrong : ChangeSpec := { name := "plannerLimits", fn := fun _ => fun
  | [d1, d2, d3] => { results := [.lit (.bool false)], args := [d1, d2, d3] }
  | _ => none }
def PlannerLimitsWrongFalsely : Prop := plannerLimitsRow.holds Tryz.pinned (OpenSpec.ofChange plannerLimitsWrong)

/-- 'humpyardlaw17.PlannerItems': WHATEVER THE INPUT: true; the input reads as it did. -/
def plannerItemsSpec : ChangeSpec := { name := "plannerItems", fn := fun _ => fun
  | [d1, d2, d3] => { results := [.lit (.bool true)], args := [d1, d2, d3] }
  | _ => none }
def plannerItemsRow : OpenClaim := { program := "ytimkmieohkefiaagreat", sum := "23230f59c128ed2d7c2ac74a1268fb3e4eedbe76e5c49dca336b857db85fd62d", func := "humpyard/humpyardlaw17.PlannerItems", spec := "plannerItems", unfollowed := true, recurses := true, apart := false }
def PlannerItemsSaid : Prop := plannerItemsRow.holds Tryz.pinned (OpenSpec.ofChange plannerItemsSpec)

/-- ITS FALSE NEIGHBOUR: 'it returns false'. Refute it at one input. -/
def plannerItemsWrong : ChangeSpec := { name := "plannerItems", fn := fun _ => fun
  | [d1, d2, d3] => { results := [.lit (.bool false)], args := [d1, d2, d3] }
  | _ => none }
def PlannerItemsWrongFalsely : Prop := plannerItemsRow.holds Tryz.pinned (OpenSpec.ofChange plannerItemsWrong)

/-- 'humpyardlaw17.PlannerExact': WHATEVER THE INPUT: true; the input reads as it did. -/
def plannerExactSpec : ChangeSpec := { name := "plannerExact", fn := fun _ => fun
  | [d1, d2, d3] => { results := [.lit (.bool true)], args := [d1, d2, d3] }
  | _ => none }
def plannerExactRow : OpenClaim := { program := "ytimkmieohkefiaagreat", sum := "23230f59c128ed2d7c2ac74a1268fb3e4eedbe76e5c49dca336b857db85fd62d", func := "humpyard/humpyardlaw17.PlannerExact", spec := "plannerExact", unfollowed := true, recurses := true, apart := false }
def PlannerExactSaid : Prop := plannerExactRow.holds Tryz.pinned (OpenSpec.ofChange plannerExactSpec)

/-- ITS FALSE NEIGHBOUR: 'it returns false'. Refute it at one input. -/
def plannerExactWrong : ChangeSpec := { name := "plannerExact", fn := fun _ => fun
  | [d1, d2, d3] => { results := [.lit (.bool false)], args := [d1, d2, d3] }
  | _ => none }
def PlannerExactWrongFalsely : Prop := plannerExactRow.holds Tryz.pinned (OpenSpec.ofChange plannerExactWrong)

/-- 'humpyardlaw17.PlannerProved': WHATEVER THE INPUT: true; the input reads as it did. -/
def plannerProvedSpec : ChangeSpec := { name := "plannerProved", fn := fun _ => fun
  | [d] => { results := [.lit (.bool true)], args := [d] }
  | _ => none }
def plannerProvedRow : OpenClaim := { program := "ytimkmieohkefiaagreat", sum := "23230f59c128ed2d7c2ac74a1268fb3e4eedbe76e5c49dca336b857db85fd62d", func := "humpyard/humpyardlaw17.PlannerProved", spec := "plannerProved", unfollowed := true, recurses := true, apart := false }
def PlannerProvedSaid : Prop := plannerProvedRow.holds Tryz.pinned (OpenSpec.ofChange plannerProvedSpec)

/-- ITS FALSE NEIGHBOUR: 'it returns false'. Refute it at one input. -/
def plannerProvedWrong : ChangeSpec := { name := "plannerProved", fn := fun _ => fun
  | [d] => { results := [.lit (.bool false)], args := [d] }
  | _ => none }
def PlannerProvedWrongFalsely : Prop := plannerProvedRow.holds Tryz.pinned (OpenSpec.ofChange plannerProvedWrong)

/-- 'humpyardlaw17.PlannerBest': WHATEVER THE INPUT: true; the input reads as it did. -/
def plannerBestSpec : ChangeSpec := { name := "plannerBest", fn := fun _ => fun
  | [d] => { results := [.lit (.bool true)], args := [d] }
  | _ => none }
def plannerBestRow : OpenClaim := { program := "ytimkmieohkefiaagreat", sum := "23230f59c128ed2d7c2ac74a1268fb3e4eedbe76e5c49dca336b857db85fd62d", func := "humpyard/humpyardlaw17.PlannerBest", spec := "plannerBest", unfollowed := true, recurses := true, apart := false }
def PlannerBestSaid : Prop := plannerBestRow.holds Tryz.pinned (OpenSpec.ofChange plannerBestSpec)

/-- ITS FALSE NEIGHBOUR: 'it returns false'. Refute it at one input. -/
def plannerBestWrong : ChangeSpec := { name := "plannerBest", fn := fun _ => fun
  | [d] => { results := [.lit (.bool false)], args := [d] }
  | _ => none }
def PlannerBestWrongFalsely : Prop := plannerBestRow.holds Tryz.pinned (OpenSpec.ofChange plannerBestWrong)

/-- 'humpyardlaw17.PlannerDelivers': WHATEVER THE INPUT: true; the input reads as it did. -/
def plannerDeliversSpec : ChangeSpec := { name := "plannerDelivers", fn := fun _ => fun
  | [d] => { results := [.lit (.bool true)], args := [d] }
  | _ => none }
def plannerDeliversRow : OpenClaim := { program := "ytimkmieohkefiaagreat", sum := "23230f59c128ed2d7c2ac74a1268fb3e4eedbe76e5c49dca336b857db85fd62d", func := "humpyard/humpyardlaw17.PlannerDelivers", spec := "plannerDelivers", unfollowed := true, recurses := true, apart := false }
def PlannerDeliversSaid : Prop := plannerDeliversRow.holds Tryz.pinned (OpenSpec.ofChange plannerDeliversSpec)

/-- ITS FALSE NEIGHBOUR: 'it returns false'. Refute it at one input. -/
def plannerDeliversWrong : ChangeSpec := { name := "plannerDelivers", fn := fun _ => fun
  | [d] => { results := [.lit (.bool false)], args := [d] }
  | _ => none }
def PlannerDeliversWrongFalsely : Prop := plannerDeliversRow.holds Tryz.pinned (OpenSpec.ofChange plannerDeliversWrong)

/-- 'humpyardlaw17.PlannerRoom': WHATEVER THE INPUT: true; the input reads as it did. -/
def plannerRoomSpec : ChangeSpec := { name := "plannerRoom", fn := fun _ => fun
  | [d] => { results := [.lit (.bool true)], args := [d] }
  | _ => none }
def plannerRoomRow : OpenClaim := { program := "ytimkmieohkefiaagreat", sum := "23230f59c128ed2d7c2ac74a1268fb3e4eedbe76e5c49dca336b857db85fd62d", func := "humpyard/humpyardlaw17.PlannerRoom", spec := "plannerRoom", unfollowed := true, recurses := true, apart := false }
def PlannerRoomSaid : Prop := plannerRoomRow.holds Tryz.pinned (OpenSpec.ofChange plannerRoomSpec)

/-- ITS FALSE NEIGHBOUR: 'it returns false'. Refute it at one input. -/
def plannerRoomWrong : ChangeSpec := { name := "plannerRoom", fn := fun _ => fun
  | [d] => { results := [.lit (.bool false)], args := [d] }
  | _ => none }
def PlannerRoomWrongFalsely : Prop := plannerRoomRow.holds Tryz.pinned (OpenSpec.ofChange plannerRoomWrong)

/- THE SECOND FORM. 'bulk': how many values and letters a reading holds, each counted each time it is reached (what is shared counts as often as it is met; a slice's spare places count too). A statement '..UptoSaid' is the law's where the arguments, and the package variables that the reading takes, are together of bulk at most 1048576: NARROWER than '..Said'. Prove '..Said' where nothing that the law and all that it calls make is longer than what came in: it says more and counts as full. Else prove '..UptoSaid'. A law counts once. -/
mutual
def uptoBulk {H : Type} : DataW H → Nat
  | .lit (.string bytes) => bytes.length + 1
  | .lit _ => 1
  | .nil => 1
  | .ptr d => uptoBulk d + 1
  | .slice elems spare => uptoBulkAll elems + uptoBulkAll spare + 1
  | .agg parts => uptoBulkAll parts + 1
  | .iface _ d => uptoBulk d + 1
  | .map entries => uptoBulkEntries entries + 1
  | .held _ => 1
def uptoBulkAll {H : Type} : List (DataW H) → Nat
  | [] => 0
  | d :: r => uptoBulk d + uptoBulkAll r
def uptoBulkEntries {H : Type} : List (Lit × DataW H) → Nat
  | [] => 0
  | x :: r => uptoBulkEntry x + uptoBulkEntries r
def uptoBulkEntry {H : Type} : Lit × DataW H → Nat
  | (.string bytes, d) => bytes.length + uptoBulk d + 1
  | (_, d) => uptoBulk d + 1
 end
def uptoSmall : (H : Type) → List (DataW H) → Bool := fun _ ds => decide (uptoBulkAll ds ≤ 1048576)
def OpenSpec.upto (s : _root_.Go.ChangeSpec) : _root_.Go.OpenSpec := { _root_.Go.OpenSpec.ofChange s with cond := some uptoSmall }

/-- 'humpyardlaw17.PlannerLimits', WHERE WHAT IT READS IS OF BULK AT MOST 1048576: true; the input reads as it did. -/
def plannerLimitsUptoRow : OpenClaim := { program := "ytimkmieohkefiaagreat", sum := "23230f59c128ed2d7c2ac74a1268fb3e4eedbe76e5c49dca336b857db85fd62d", func := "humpyard/humpyardlaw17.PlannerLimits", spec := "plannerLimits", unfollowed := true, recurses := true, apart := false, narrowed := true }
def PlannerLimitsUptoSaid : Prop := plannerLimitsUptoRow.holds Tryz.pinned (OpenSpec.upto plannerLimitsSpec)

/-- 'humpyardlaw17.PlannerItems', WHERE WHAT IT READS IS OF BULK AT MOST 1048576: true; the input reads as it did. -/
def plannerItemsUptoRow : OpenClaim := { program := "ytimkmieohkefiaagreat", sum := "23230f59c128ed2d7c2ac74a1268fb3e4eedbe76e5c49dca336b857db85fd62d", func := "humpyard/humpyardlaw17.PlannerItems", spec := "plannerItems", unfollowed := true, recurses := true, apart := false, narrowed := true }
def PlannerItemsUptoSaid : Prop := plannerItemsUptoRow.holds Tryz.pinned (OpenSpec.upto plannerItemsSpec)

/-- 'humpyardlaw17.PlannerExact', WHERE WHAT IT READS IS OF BULK AT MOST 1048576: true; the input reads as it did. -/
def plannerExactUptoRow : OpenClaim := { program := "ytimkmieohkefiaagreat", sum := "23230f59c128ed2d7c2ac74a1268fb3e4eedbe76e5c49dca336b857db85fd62d", func := "humpyard/humpyardlaw17.PlannerExact", spec := "plannerExact", unfollowed := true, recurses := true, apart := false, narrowed := true }
def PlannerExactUptoSaid : Prop := plannerExactUptoRow.holds Tryz.pinned (OpenSpec.upto plannerExactSpec)

/-- 'humpyardlaw17.PlannerProved', WHERE WHAT IT READS IS OF BULK AT MOST 1048576: true; the input reads as it did. -/
def plannerProvedUptoRow : OpenClaim := { program := "ytimkmieohkefiaagreat", sum := "23230f59c128ed2d7c2ac74a1268fb3e4eedbe76e5c49dca336b857db85fd62d", func := "humpyard/humpyardlaw17.PlannerProved", spec := "plannerProved", unfollowed := true, recurses := true, apart := false, narrowed := true }
def PlannerProvedUptoSaid : Prop := plannerProvedUptoRow.holds Tryz.pinned (OpenSpec.upto plannerProvedSpec)

/-- 'humpyardlaw17.PlannerBest', WHERE WHAT IT READS IS OF BULK AT MOST 1048576: true; the input reads as it did. -/
def plannerBestUptoRow : OpenClaim := { program := "ytimkmieohkefiaagreat", sum := "23230f59c128ed2d7c2ac74a1268fb3e4eedbe76e5c49dca336b857db85fd62d", func := "humpyard/humpyardlaw17.PlannerBest", spec := "plannerBest", unfollowed := true, recurses := true, apart := false, narrowed := true }
def PlannerBestUptoSaid : Prop := plannerBestUptoRow.holds Tryz.pinned (OpenSpec.upto plannerBestSpec)

/-- 'humpyardlaw17.PlannerDelivers', WHERE WHAT IT READS IS OF BULK AT MOST 1048576: true; the input reads as it did. -/
def plannerDeliversUptoRow : OpenClaim := { program := "ytimkmieohkefiaagreat", sum := "23230f59c128ed2d7c2ac74a1268fb3e4eedbe76e5c49dca336b857db85fd62d", func := "humpyard/humpyardlaw17.PlannerDelivers", spec := "plannerDelivers", unfollowed := true, recurses := true, apart := false, narrowed := true }
def PlannerDeliversUptoSaid : Prop := plannerDeliversUptoRow.holds Tryz.pinned (OpenSpec.upto plannerDeliversSpec)

/-- 'humpyardlaw17.PlannerRoom', WHERE WHAT IT READS IS OF BULK AT MOST 1048576: true; the input reads as it did. -/
def plannerRoomUptoRow : OpenClaim := { program := "ytimkmieohkefiaagreat", sum := "23230f59c128ed2d7c2ac74a1268fb3e4eedbe76e5c49dca336b857db85fd62d", func := "humpyard/humpyardlaw17.PlannerRoom", spec := "plannerRoom", unfollowed := true, recurses := true, apart := false, narrowed := true }
def PlannerRoomUptoSaid : Prop := plannerRoomUptoRow.holds Tryz.pinned (OpenSpec.upto plannerRoomSpec)

end Rows
end Go.Proofs.YtimkmieohkefiaaGreat
