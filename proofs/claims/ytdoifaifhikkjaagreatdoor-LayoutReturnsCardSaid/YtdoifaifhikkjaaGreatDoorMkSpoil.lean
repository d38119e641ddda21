/-
  The maker's Spoil: some string that is at most one byte longer.
-/
import Derived.Test.YtdoifaifhikkjaaGreatDoorMkNumber
set_option linter.unusedSimpArgs false
set_option linter.unusedVariables false
namespace Go.Proofs.YtdoifaifhikkjaaGreatDoor
open Go.RowKit

theorem size_one (v : Int) : (strOfNums [v]).size = 1 := by rw [strOfNums_size]; rfl

end Go.Proofs.YtdoifaifhikkjaaGreatDoor
