/-
  Stage 2: strings of digits: the reference's digits and sum.
-/
import Derived.Test.YtdoifaifhikkjaaGreatDoorByts
set_option linter.unusedSimpArgs false
set_option linter.unusedVariables false
namespace Go.Proofs.YtdoifaifhikkjaaGreatDoor
open Go.RowKit

theorem take_snoc (s : ByteArray) (k : Nat) (h : k < s.size) : s.data.toList.take (k + 1) = s.data.toList.take k ++ [s[k]] := by
  rw [List.take_succ_eq_append_getElem (by simpa using h)]; rfl

theorem all_snocD (s : ByteArray) (k : Nat) (h : k < s.size) : (s.data.toList.take (k + 1)).all dig = ((s.data.toList.take k).all dig && dig s[k]) := by
  rw [take_snoc s k h, List.all_append]; simp

theorem all_take (s : ByteArray) (k : Nat) (h : (s.data.toList.take k).all dig = false) : s.data.toList.all dig = false := by
  have : s.data.toList.all dig = ((s.data.toList.take k).all dig && (s.data.toList.drop k).all dig) := by rw [← List.all_append, List.take_append_drop]
  rw [this, h]; rfl

end Go.Proofs.YtdoifaifhikkjaaGreatDoor
