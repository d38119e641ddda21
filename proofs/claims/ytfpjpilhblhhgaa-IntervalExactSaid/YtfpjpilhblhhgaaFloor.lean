/-
  The contracts of Floor and Ceil, the program's and the reference's: the quotient rounded down and up, for all numbers.
-/
import Derived.Test.YtfpjpilhblhhgaaLeaf
set_option linter.unusedSimpArgs false
set_option linter.unusedVariables false
namespace Go.Proofs.Ytfpjpilhblhhgaa
open Go.RowKit

/-- The quotient rounded down, as both texts reckon it. -/
def fdv (a b : Int) : Int := if a.tmod b ≠ 0 ∧ (a.tmod b < 0 ↔ ¬ b < 0) then a.tdiv b - 1 else a.tdiv b
/-- The quotient rounded up. -/
def cdv (a b : Int) : Int := if a.tmod b ≠ 0 ∧ (a.tmod b < 0 ↔ b < 0) then a.tdiv b + 1 else a.tdiv b
def flr (a b : Int) : Int × Int := if b = 0 then (0, 5) else bnd (fdv a b)
def cil (a b : Int) : Int × Int := if b = 0 then (0, 5) else bnd (cdv a b)

/-- A quotient of two ints fits an int, but for the least int by -1. -/
theorem tdiv_bd (a b : Int) (h0 : b ≠ 0) (h1 : -9223372036854775808 ≤ a) (h2 : a ≤ 9223372036854775807) (h3 : b = -1 → -9223372036854775807 ≤ a) :
    -9223372036854775807 - 1 ≤ a.tdiv b ∧ a.tdiv b ≤ 9223372036854775807 ∧ (a.tmod b ≠ 0 → -4611686018427387905 ≤ a.tdiv b ∧ a.tdiv b ≤ 4611686018427387904) := by
  have e := Int.tmod_add_mul_tdiv a b
  have hm : (a.tmod b).natAbs < b.natAbs := by
    rw [Int.natAbs_tmod]; exact Nat.mod_lt _ (by omega)
  have hn : (a.tdiv b).natAbs = a.natAbs / b.natAbs := Int.natAbs_tdiv a b
  rcases Nat.lt_or_ge 1 b.natAbs with hb | hb
  · have h4 : a.natAbs / b.natAbs ≤ a.natAbs / 2 := Nat.div_le_div_left hb (by omega)
    omega
  · have hb1 : b = 1 ∨ b = -1 := by omega
    rcases hb1 with rfl | rfl
    · simp at *; omega
    · have := h3 rfl
      simp at *; omega

theorem fdv_bd (a b : Int) (h0 : b ≠ 0) (h1 : -9223372036854775808 ≤ a) (h2 : a ≤ 9223372036854775807) (h3 : b = -1 → -9223372036854775807 ≤ a) :
    -9223372036854775808 ≤ fdv a b ∧ fdv a b ≤ 9223372036854775807 := by
  have := tdiv_bd a b h0 h1 h2 h3
  unfold fdv
  split <;> omega

/-- What 'rounded down' means. -/
theorem fdv_spec (a b : Int) (h : 0 < b) : fdv a b * b ≤ a ∧ a < fdv a b * b + b := by
  have e := Int.tmod_add_mul_tdiv a b
  have hm : (a.tmod b).natAbs < b.natAbs := by
    rw [Int.natAbs_tmod]; exact Nat.mod_lt _ (by omega)
  rw [Int.mul_comm] at e
  unfold fdv
  split
  · rw [Int.sub_mul]; omega
  · omega

theorem cdv_spec (a b : Int) (h : 0 < b) : a ≤ cdv a b * b ∧ cdv a b * b - b < a := by
  have e := Int.tmod_add_mul_tdiv a b
  have hm : (a.tmod b).natAbs < b.natAbs := by
    rw [Int.natAbs_tmod]; exact Nat.mod_lt _ (by omega)
  rw [Int.mul_comm] at e
  unfold cdv
  split
  · rw [Int.add_mul]; omega
  · omega

end Go.Proofs.Ytfpjpilhblhhgaa
