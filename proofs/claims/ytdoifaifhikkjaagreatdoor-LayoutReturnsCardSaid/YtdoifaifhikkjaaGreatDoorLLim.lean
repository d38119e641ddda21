/-
  Stage 9: the law of the limits, given that a valid layout is read as it is written.
-/
import Derived.Test.YtdoifaifhikkjaaGreatDoorLLine
import Derived.Test.YtdoifaifhikkjaaGreatDoorLSame
import Derived.Test.YtdoifaifhikkjaaGreatDoorLSane
import Derived.Test.YtdoifaifhikkjaaGreatDoorLText
set_option linter.unusedSimpArgs false
set_option linter.unusedVariables false
namespace Go.Proofs.YtdoifaifhikkjaaGreatDoor
open Go.RowKit Go.Lib

/-- A valid layout is read as it is written. -/
def RoundT : Prop := ∀ l : List El, validE l = 0 → parseE (fmtE l).1 = (l, 0, 0)
theorem textE_len {l : List El} (hv : validE l = 0) : ∀ k, k ≤ l.length → (textE l k).length ≤ k * 301
  | 0, _ => by simp [textE]
  | k + 1, h => by
    obtain ⟨x, hx, _, ht⟩ := drop_ex (l := l) (k := k) (by omega)
    rw [textE_snoc ht, List.length_append]
    have ih := textE_len hv k (by omega)
    have hm : x ∈ l := List.mem_of_getElem? hx
    have O := okW_of hv hm
    have := lineT_le O (O.z x hm)
    unfold lineT
    rw [List.length_append]
    simp only [List.length_cons, List.length_nil]
    omega
theorem fmtE_len {l : List El} (hl : l.length ≤ 1000) : (fmtE l).1.size ≤ 1000000000 := by
  unfold fmtE
  by_cases hv : validE l = 0
  · rw [if_pos hv]
    have := textE_len hv l.length (Nat.le_refl _)
    show (textE l l.length).length ≤ _
    omega
  · rw [if_neg hv]; exact Nat.zero_le _
set_option maxRecDepth 1000000 in
theorem v0 : validE (lnP 125 126) = 0 := by decide +kernel
set_option maxRecDepth 1000000 in
theorem v1 : validE (lnP 126 127) = 0 := by decide +kernel
set_option maxRecDepth 1000000 in
theorem v2 : validE (lnP 127 128) = 3 := by decide +kernel
set_option maxRecDepth 1000000 in
theorem v3 : validE (fnL 30) = 0 := by decide +kernel
set_option maxRecDepth 1000000 in
theorem v4 : validE (fnL 31) = 0 := by decide +kernel
set_option maxRecDepth 1000000 in
theorem v5 : validE (fnL 32) = 3 := by decide +kernel
def limL (N j : Nat) : List El := if j = 0 then lnP (125 + N) (125 + N + 1) else fnL (30 + N)
theorem limL_ok {N : Nat} (h : N ≤ 1) {j : Nat} : validE (limL N j) = 0 := by
  unfold limL
  rcases (by omega : N = 0 ∨ N = 1) with rfl | rfl <;> split
  · exact v0
  · exact v3
  · exact v1
  · exact v4
theorem limL_bad {j : Nat} : validE (limL 2 j) = 3 := by
  unfold limL
  split
  · exact v2
  · exact v5
theorem limL_len {N j : Nat} (h : N ≤ 2) : (limL N j).length ≤ 200 := by
  unfold limL
  split
  · rw [lnP_len]; omega
  · unfold fnL; rw [List.length_append, fnP_len]; simp; omega
theorem nmD_size {c : UInt8} {i : Nat} (h : i ≤ 1000) : (nmD c i).size ≤ 21 := by
  unfold nmD
  rw [ByteArray.size_append]
  have := dec_len h
  show 1 + (Lib.decDigits i).length ≤ 21
  omega
theorem limL_sz {N j : Nat} (h : N ≤ 2) : SzE (limL N j) := by
  have key : ∀ x ∈ limL N j, x.name.size ≤ 21 := by
    intro x hx
    unfold limL at hx
    split at hx
    · unfold lnP at hx
      rcases List.mem_cons.1 hx with rfl | hx
      · decide
      · obtain ⟨i, hi, rfl⟩ := List.mem_map.1 hx
        exact nmD_size (by have := List.mem_range.1 hi; omega)
    · unfold fnL at hx
      rcases List.mem_append.1 hx with hx | hx
      · unfold fnP at hx
        rcases List.mem_cons.1 hx with rfl | hx
        · decide
        · obtain ⟨i, hi, hx⟩ := List.mem_flatMap.1 hx
          have := List.mem_range.1 hi
          simp only [List.mem_cons, List.not_mem_nil, or_false] at hx
          rcases hx with rfl | rfl
          · exact nmD_size (by omega)
          · exact nmD_size (by omega)
      · simp only [List.mem_cons, List.not_mem_nil, or_false] at hx
        subst hx
        show (4 : Nat) ≤ 21
        decide
  intro x hx
  have := key x hx
  unfold maxLen
  omega
end Go.Proofs.YtdoifaifhikkjaaGreatDoor
