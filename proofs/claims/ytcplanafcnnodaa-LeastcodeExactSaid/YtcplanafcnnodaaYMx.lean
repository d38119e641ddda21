/-
  Stage 13, plain: the greatest of a list and 0.
-/
import Derived.Test.YtcplanafcnnodaaYLeast
set_option linter.unusedSimpArgs false
set_option linter.unusedVariables false
namespace Go.Proofs.Ytcplanafcnnodaa
open Go.RowKit Go.Lib

/-- The greatest of 0 and the first k. -/
def mx0 (v : List Int) : Nat → Int
  | 0 => 0
  | k + 1 => max2 (mx0 v k) (v.getD k 0)
theorem mx0_le (v : List Int) : ∀ k, (0 ≤ mx0 v k) ∧ ∀ y, y < k → v.getD y 0 ≤ mx0 v k := by
  intro k
  induction k with
  | zero => exact ⟨Int.le_refl _, fun y hy => by cases hy⟩
  | succ k ih =>
    obtain ⟨i1, i2⟩ := ih
    have e : mx0 v (k + 1) = if mx0 v k < v.getD k 0 then v.getD k 0 else mx0 v k := rfl
    refine ⟨by rw [e]; split <;> omega, fun y hy => ?_⟩
    rcases Nat.lt_or_ge y k with g | g
    · have := i2 y g; rw [e]; split <;> omega
    · obtain rfl : y = k := by omega
      rw [e]; split <;> omega
theorem mx0_top {v : List Int} {y : Nat} (h : IsTop v y) (hv : ∀ y, 0 ≤ v.getD y 0) : mx0 v v.length = v.getD y 0 := by
  have h1 := (mx0_le v v.length).2 y h.lt
  have h2 : ∀ k, k ≤ v.length → mx0 v k ≤ v.getD y 0 := by
    intro k
    induction k with
    | zero => intro _; exact hv y
    | succ k ih =>
      intro hk
      have := ih (by omega)
      have := h.le k (by omega)
      show max2 (mx0 v k) (v.getD k 0) ≤ _
      unfold max2; split <;> omega
  have := h2 v.length (Nat.le_refl _)
  omega
theorem mx0_topV {v : List Int} {M : Int} (h : TopV v v.length M) (hv : ∀ y, 0 ≤ v.getD y 0) : mx0 v v.length = M := by
  obtain ⟨x, hx, e⟩ := h.hit
  have h1 := (mx0_le v v.length).2 x hx
  have h2 : ∀ k, k ≤ v.length → mx0 v k ≤ M := by
    intro k
    induction k with
    | zero => intro _; have := hv x; show (0 : Int) ≤ M; omega
    | succ k ih =>
      intro hk
      have := ih (by omega)
      have := h.le k (by omega)
      show max2 (mx0 v k) (v.getD k 0) ≤ _
      unfold max2; split <;> omega
  have := h2 v.length (Nat.le_refl _)
  omega
theorem steps_mx0 {v : List Int} {st : Int} (h : StepsOf v st) (hv : ∀ y, 0 ≤ v.getD y 0) : st = (ln (mx0 v v.length).toNat : Int) := by
  rcases h with ⟨rfl, rfl⟩ | ⟨M, hM, rfl⟩
  · rfl
  · rw [mx0_topV hM hv]
end Go.Proofs.Ytcplanafcnnodaa
