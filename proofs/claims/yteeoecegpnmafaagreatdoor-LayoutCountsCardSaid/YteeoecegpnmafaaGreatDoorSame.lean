/-
  The maker's comparisons: two lists that read alike are the same.
-/
import Derived.Test.YteeoecegpnmafaaGreatDoorNum
set_option linter.unusedSimpArgs false
set_option linter.unusedVariables false
namespace Go.Proofs.YteeoecegpnmafaaGreatDoor
open Go.RowKit

end Go.Proofs.YteeoecegpnmafaaGreatDoor
