/-
  Stage 13: the program's chainTo, Least and Witness.
-/
import Derived.Test.YtkopbnppjhdbgaaYSolve
import Derived.Test.YtkopbnppjhdbgaaJTop
set_option linter.unusedSimpArgs false
set_option linter.unusedVariables false
namespace Go.Proofs.Ytkopbnppjhdbgaa
open Go.RowKit Go.Lib

def tlN (i : Nat) : Bool := false
/-- What a chain leaves: a list of the call's own. -/
def ChPostB (l : List It) (v bs : List Int) (y : Nat) (w : World) (e : Ending) (w' : World) : Prop :=
  ∃ u c, e = .returned u ∧ IsBackB l v bs y c ∧ Own .i64 3 w' w.heap.size u (toZ c) ∧ Below w.heap.size w w'
/-- Block b holds the solution. -/
structure SBox (w : World) (b : Nat) (d : SD) : Prop where
  c0 : w.cell? ⟨b, 0, none⟩ = some (.slice d.1.1 d.1.2.1 d.1.2.2)
  c1 : w.cell? ⟨b, 1, none⟩ = some (.slice d.2.1 d.2.2.1 d.2.2.2)
  lt : b < w.heap.size
theorem SBox.below {w w' : World} {b B : Nat} {d : SD} (h : SBox w b d) (k : Below B w w') (hb : b < B) : SBox w' b d :=
  ⟨(k.cell (p := ⟨b, 0, none⟩) hb).trans h.c0, (k.cell (p := ⟨b, 1, none⟩) hb).trans h.c1, Nat.lt_of_lt_of_le h.lt k.size⟩
theorem SBox.new {w : World} {d : SD} (b : Nat) (hb : b = w.heap.size) : SBox (w.alloc (.cells #[.slice d.1.1 d.1.2.1 d.1.2.2, .slice d.2.1 d.2.2.1 d.2.2.2] 77)) b d := by
  subst hb; exact ⟨by rw [cell_new]; rfl, by rw [cell_new]; rfl, by simp⟩
end Go.Proofs.Ytkopbnppjhdbgaa
