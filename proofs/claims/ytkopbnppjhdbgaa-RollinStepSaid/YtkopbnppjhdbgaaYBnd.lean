/-
  Stage 13: the program's Bound.
-/
import Derived.Test.YtkopbnppjhdbgaaYBound
set_option linter.unusedSimpArgs false
set_option linter.unusedVariables false
namespace Go.Proofs.Ytkopbnppjhdbgaa
open Go.RowKit Go.Lib

end Go.Proofs.Ytkopbnppjhdbgaa
