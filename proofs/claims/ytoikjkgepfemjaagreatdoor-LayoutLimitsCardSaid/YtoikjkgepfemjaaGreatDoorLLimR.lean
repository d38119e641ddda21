/-
  Stage 9: the walk of LayoutLimits.
-/
import Derived.Test.YtoikjkgepfemjaaGreatDoorLLimW
import Derived.Test.YtoikjkgepfemjaaGreatDoorLRT
namespace Go.Proofs.YtoikjkgepfemjaaGreatDoor
open Go.RowKit Go.Lib
theorem limits_full (n : Int) (w : World) (D : Dor w) (bd : -9223372036854775808 ≤ n ∧ n ≤ 9223372036854775807) : Calls Tryz.prog 3 #[.int .i64 n] w fun e w' => e = .returned (.bool true) ∧ Below w.heap.size w w' := limits_walk round_trip n w D bd
end Go.Proofs.YtoikjkgepfemjaaGreatDoor
