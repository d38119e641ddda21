/-
  Plain numbers for stage 1: the square root of a whole number, rounded down, and the rounding of quotients. No condition; no program is named here.
-/
import Derived.Test.YtfpjpilhblhhgaaRows
set_option linter.unusedSimpArgs false
set_option linter.unusedVariables false
namespace Go.Proofs.Ytfpjpilhblhhgaa

/-- The greatest r with r * r at most n. -/
def isqN : Nat → Nat
  | 0 => 0
  | n + 1 => if (isqN n + 1) * (isqN n + 1) ≤ n + 1 then isqN n + 1 else isqN n

theorem isqN_spec (n : Nat) : isqN n * isqN n ≤ n ∧ n < (isqN n + 1) * (isqN n + 1) := by
  induction n with
  | zero => exact ⟨Nat.le_refl _, by decide⟩
  | succ n ih =>
    unfold isqN
    by_cases h : (isqN n + 1) * (isqN n + 1) ≤ n + 1
    · rw [if_pos h]
      refine ⟨h, ?_⟩
      have e : (isqN n + 1 + 1) * (isqN n + 1 + 1) = (isqN n + 1) * (isqN n + 1) + 2 * (isqN n + 1) + 1 := by
        rw [Nat.add_mul, Nat.mul_add]; omega
      omega
    · rw [if_neg h]
      exact ⟨by omega, by omega⟩

theorem sq_lt {a b : Nat} (h : a < b) : (a + 1) * (a + 1) ≤ b * b := Nat.mul_le_mul h h

theorem isqN_eq {n r : Nat} (h1 : r * r ≤ n) (h2 : n < (r + 1) * (r + 1)) : isqN n = r := by
  have ⟨g1, g2⟩ := isqN_spec n
  rcases Nat.lt_trichotomy (isqN n) r with h | h | h
  · have := sq_lt h; omega
  · exact h
  · have := sq_lt h; omega

/-- The same of an Int. -/
def isq (n : Int) : Int := (isqN n.toNat : Int)

theorem isq_nonneg (n : Int) : 0 ≤ isq n := by unfold isq; omega

theorem isq_eq {n r : Int} (h0 : 0 ≤ r) (h1 : r * r ≤ n) (h2 : n < (r + 1) * (r + 1)) : isq n = r := by
  obtain ⟨k, rfl⟩ := Int.eq_ofNat_of_zero_le h0
  have hn : 0 ≤ n := Int.le_trans (Int.mul_nonneg h0 h0) h1
  obtain ⟨m, rfl⟩ := Int.eq_ofNat_of_zero_le hn
  unfold isq
  rw [Int.toNat_natCast]
  have e : isqN m = k := isqN_eq (by exact_mod_cast h1) (by exact_mod_cast h2)
  rw [e]

theorem isq_le {n : Int} (h : 0 ≤ n) : isq n * isq n ≤ n := by
  obtain ⟨m, rfl⟩ := Int.eq_ofNat_of_zero_le h
  unfold isq
  rw [Int.toNat_natCast]
  exact_mod_cast (isqN_spec m).1

theorem lt_isq {n : Int} (h : 0 ≤ n) : n < (isq n + 1) * (isq n + 1) := by
  obtain ⟨m, rfl⟩ := Int.eq_ofNat_of_zero_le h
  unfold isq
  rw [Int.toNat_natCast]
  exact_mod_cast (isqN_spec m).2

theorem sq_mono {a b : Int} (h0 : 0 ≤ a) (h : a ≤ b) : a * a ≤ b * b :=
  Int.mul_le_mul h h h0 (Int.le_trans h0 h)

/-- A root of a number up to 10^12 is at most 10^6. -/
theorem isq_bd {n : Int} (h : 0 ≤ n) (h1 : n ≤ 1000000000000) : isq n ≤ 1000000 := by
  by_cases g : isq n ≤ 1000000
  · exact g
  · have g' : (1000001 : Int) ≤ isq n := by omega
    have := sq_mono (by omega) g'
    have := isq_le h
    omega

end Go.Proofs.Ytfpjpilhblhhgaa
