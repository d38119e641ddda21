/-
  The contracts of product and Mul.
-/
import Derived.Test.YtfpjpilhblhhgaaRt
set_option linter.unusedSimpArgs false
set_option linter.unusedVariables false
namespace Go.Proofs.Ytfpjpilhblhhgaa
open Go.RowKit

/-- A product that is not too large. -/
def sml (n : Int) : Bool := decide (-1000000000000 ≤ n ∧ n ≤ 1000000000000)

theorem sml_t {n : Int} (h : sml n = true) : -1000000000000 ≤ n ∧ n ≤ 1000000000000 := by simpa [sml] using h
theorem sml_f {n : Int} (h : sml n = false) : ¬ (-1000000000000 ≤ n ∧ n ≤ 1000000000000) := of_decide_eq_false h

theorem sml_abs (a b A B : Int) (h0 : 0 < A) (hA : A = a ∨ A = -a) (hB : B = b ∨ B = -b) (hB0 : 0 ≤ B) :
    (1000000000000 / A < B) ↔ sml (a * b) = false := by
  rw [Int.ediv_lt_iff_lt_mul h0]
  have hp : 0 ≤ B * A := Int.mul_nonneg hB0 (by omega)
  have he : B * A = a * b ∨ B * A = -(a * b) := by
    rcases hA with rfl | rfl <;> rcases hB with rfl | rfl
    · left; rw [Int.mul_comm]
    · right; rw [Int.neg_mul, Int.mul_comm]
    · right; rw [Int.mul_neg, Int.mul_comm]
    · left; rw [Int.neg_mul_neg, Int.mul_comm]
  unfold sml
  rw [decide_eq_false_iff_not]
  generalize a * b = c at *
  generalize B * A = d at *
  omega

/-- The product, or 0. -/
def prd (a b : Int) : Int := if sml (a * b) = true then a * b else 0

theorem quo_neg (a b B : Int) (h : a < 0) (hB : B = b ∨ B = -b) (hB0 : 0 ≤ B) :
    -1000000000000 ≤ Int.tdiv 1000000000000 a ∧ Int.tdiv 1000000000000 a ≤ 0 ∧ (-Int.tdiv 1000000000000 a < B ↔ sml (a * b) = false) := by
  have k := sml_abs a b (-a) B (by omega) (Or.inr rfl) hB hB0
  have e : (1000000000000 : Int) / -a = -Int.tdiv 1000000000000 a := by
    rw [← Int.tdiv_neg, Int.tdiv_eq_ediv_of_nonneg (by omega)]
  have g := IntWalk.tdiv_le 1000000000000 (-a) (by omega) (by omega)
  rw [e] at k g
  exact ⟨by omega, by omega, k⟩

theorem quo_pos (a b B : Int) (h : 0 < a) (hB : B = b ∨ B = -b) (hB0 : 0 ≤ B) :
    0 ≤ 1000000000000 / a ∧ 1000000000000 / a ≤ 1000000000000 ∧ (1000000000000 / a < B ↔ sml (a * b) = false) := by
  have k := sml_abs a b a B (by omega) (Or.inl rfl) hB hB0
  have g := IntWalk.tdiv_le 1000000000000 a (by omega) (by omega)
  exact ⟨by omega, by omega, k⟩

set_option maxHeartbeats 400000 in
theorem product_any (a b : Int) (w : World) (ha : -1000000000000 ≤ a ∧ a ≤ 1000000000000) (hb : -1000000000000 ≤ b ∧ b ≤ 1000000000000) :
    Calls Try.prog 47 #[.int .i64 a, .int .i64 b] w fun e w' => e = .returned (.tuple #[.int .i64 (prd a b), .bool (sml (a * b))]) ∧ w = w' := by
  obtain ⟨a1, a2⟩ := ha
  obtain ⟨b1, b2⟩ := hb
  by_cases h0 : a = 0
  · subst h0
    have HF : prd 0 b = 0 := by unfold prd; rw [Int.zero_mul]; rfl
    have HS : sml (0 * b) = true := by rw [Int.zero_mul]; rfl
    rw [HF, HS]
    clear HF HS
    go_enter Try.func47, Try.ntmps47
    go_wp2
    go_ret2
    exact ⟨rfl, rfl⟩
  · have hne : (a != 0) = true := by simp [h0]
    cases hs : sml (a * b)
    · have HF : prd a b = 0 := by unfold prd; rw [hs]; rfl
      rw [HF]
      clear HF
      rcases Int.lt_or_le a 0 with g1 | g1
      all_goals rcases Int.lt_or_le b 0 with g2 | g2
      · obtain ⟨q1, q2, q3⟩ := quo_neg a b (-b) g1 (Or.inr rfl) (by omega)
        have q4 := q3.2 hs
        clear q3 hs
        go_enter Try.func47, Try.ntmps47
        go_wp2
        go_ret2
        exact ⟨rfl, rfl⟩
      · obtain ⟨q1, q2, q3⟩ := quo_neg a b b g1 (Or.inl rfl) (by omega)
        have q4 := q3.2 hs
        clear q3 hs
        go_enter Try.func47, Try.ntmps47
        go_wp2
        go_ret2
        exact ⟨rfl, rfl⟩
      · obtain ⟨q1, q2, q3⟩ := quo_pos a b (-b) (by omega) (Or.inr rfl) (by omega)
        have q4 := q3.2 hs
        clear q3 hs
        go_enter Try.func47, Try.ntmps47
        go_wp2
        go_ret2
        exact ⟨rfl, rfl⟩
      · obtain ⟨q1, q2, q3⟩ := quo_pos a b b (by omega) (Or.inl rfl) (by omega)
        have q4 := q3.2 hs
        clear q3 hs
        go_enter Try.func47, Try.ntmps47
        go_wp2
        go_ret2
        exact ⟨rfl, rfl⟩
    · have HF : prd a b = a * b := by unfold prd; rw [hs]; rfl
      rw [HF]
      clear HF
      have ⟨m1, m2⟩ := sml_t hs
      have hs' : ¬ (sml (a * b) = false) := by rw [hs]; simp
      rcases Int.lt_or_le a 0 with g1 | g1
      all_goals rcases Int.lt_or_le b 0 with g2 | g2
      · obtain ⟨q1, q2, q3⟩ := quo_neg a b (-b) g1 (Or.inr rfl) (by omega)
        have q4 := Int.not_lt.1 (fun h => hs' (q3.1 h))
        clear q3 hs hs'
        go_enter Try.func47, Try.ntmps47
        go_wp2
        go_ret2
        exact ⟨rfl, rfl⟩
      · obtain ⟨q1, q2, q3⟩ := quo_neg a b b g1 (Or.inl rfl) (by omega)
        have q4 := Int.not_lt.1 (fun h => hs' (q3.1 h))
        clear q3 hs hs'
        go_enter Try.func47, Try.ntmps47
        go_wp2
        go_ret2
        exact ⟨rfl, rfl⟩
      · obtain ⟨q1, q2, q3⟩ := quo_pos a b (-b) (by omega) (Or.inr rfl) (by omega)
        have q4 := Int.not_lt.1 (fun h => hs' (q3.1 h))
        clear q3 hs hs'
        go_enter Try.func47, Try.ntmps47
        go_wp2
        go_ret2
        exact ⟨rfl, rfl⟩
      · obtain ⟨q1, q2, q3⟩ := quo_pos a b b (by omega) (Or.inl rfl) (by omega)
        have q4 := Int.not_lt.1 (fun h => hs' (q3.1 h))
        clear q3 hs hs'
        go_enter Try.func47, Try.ntmps47
        go_wp2
        go_ret2
        exact ⟨rfl, rfl⟩

end Go.Proofs.Ytfpjpilhblhhgaa
