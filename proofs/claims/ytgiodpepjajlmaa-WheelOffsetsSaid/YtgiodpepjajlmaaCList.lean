/-
  Stage 6: the first error of a list: the program.
-/
import Derived.Test.YtgiodpepjajlmaaCMap
import Derived.Test.YtgiodpepjajlmaaCValid
set_option linter.unusedSimpArgs false
set_option linter.unusedVariables false
namespace Go.Proofs.Ytgiodpepjajlmaa
open Go.RowKit

def VlPost (l : List Wag) (w : World) (e : Ending) (w' : World) : Prop := e = .returned (.int .i64 (validL l)) ∧ Below w.heap.size w w'
theorem VlPost.mk' {l : List Wag} {w w' : World} {v : Int} (h : validL l = v) (b : Below w.heap.size w w') : VlPost l w (.returned (.int .i64 v)) w' := ⟨by rw [h], b⟩
theorem num_size {x : Wag} (h : validW x = 0) : x.num.size ≤ maxLen := by
  have := (validR_size (validW_parts h).1).1
  unfold maxLen; omega
end Go.Proofs.Ytgiodpepjajlmaa
