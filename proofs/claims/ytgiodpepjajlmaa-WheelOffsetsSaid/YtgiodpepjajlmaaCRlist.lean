/-
  Stage 6: the first error of a list: the reference.
-/
import Derived.Test.YtgiodpepjajlmaaCList
import Derived.Test.YtgiodpepjajlmaaCRvalid
set_option linter.unusedSimpArgs false
set_option linter.unusedVariables false
namespace Go.Proofs.Ytgiodpepjajlmaa
open Go.RowKit

/-- The names are no longer than memory. -/
def Sz (l : List Wag) : Prop := ∀ x ∈ l, x.dst.size ≤ 4611686018427387904
theorem seenK_step {l : List Wag} {j : Nat} {y : Wag} {s : ByteArray} (hy : l[j]? = some y) (h : s ∉ seenK l j) (hne : y.num ≠ s) : s ∉ seenK l (j + 1) := by
  obtain ⟨hj, e⟩ := List.getElem?_eq_some_iff.1 hy
  obtain ⟨x, hx, _, ht⟩ := drop_ex hj
  rw [hy] at hx
  injection hx with hx
  subst hx
  rw [seenK_snoc ht]
  intro g
  rcases List.mem_append.1 g with g | g
  · exact h g
  · simp at g; exact hne g.symm
theorem seenK_mem {l : List Wag} {j k : Nat} {y : Wag} (hy : l[j]? = some y) (hj : j < k) : y.num ∈ seenK l k := by
  unfold seenK
  refine List.mem_map.2 ⟨y, ?_, rfl⟩
  rw [List.mem_iff_getElem?]
  exact ⟨j, by rw [List.getElem?_take, if_pos hj]; exact hy⟩
theorem list_ne {a b : ByteArray} (h : a ≠ b) : (a.toList == b.toList) = false := by
  rw [beq_eq_false_iff_ne]
  intro e
  rw [ByteArray.toList_eq, ByteArray.toList_eq] at e
  refine h ?_
  cases a; cases b
  congr 1
  exact Array.toList_inj.1 e
end Go.Proofs.Ytgiodpepjajlmaa
