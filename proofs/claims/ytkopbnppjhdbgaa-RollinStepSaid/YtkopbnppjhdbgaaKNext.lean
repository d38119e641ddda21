/-
  Stage 12: the next code behind a number with too many bits.
-/
import Derived.Test.YtkopbnppjhdbgaaKBits
set_option linter.unusedSimpArgs false
set_option linter.unusedVariables false
namespace Go.Proofs.Ytkopbnppjhdbgaa
open Go.RowKit

theorem pc_shl (r : Nat) : ∀ y, y * 2 ^ r < 4096 → pc (y * 2 ^ r) = pc y := by
  induction r with
  | zero => intro y _; rw [Nat.pow_zero, Nat.mul_one]
  | succ r ih =>
    intro y hy
    have e : y * 2 ^ (r + 1) = 2 * (y * 2 ^ r) := by rw [Nat.pow_succ, ← Nat.mul_assoc, Nat.mul_comm]
    rw [e] at hy ⊢
    rw [pc_step hy, show 2 * (y * 2 ^ r) % 2 = 0 by omega, show 2 * (y * 2 ^ r) / 2 = y * 2 ^ r by omega, ih y (by omega), Nat.zero_add]
theorem rp_pc {r k : Nat} (hk : k < 4096) : pc (rpN r k) = pc (k / 2 ^ r) := pc_shl r _ (Nat.lt_of_le_of_lt (rpN_le r k) hk)
theorem rp_mod (r k : Nat) : rpN r k % 2 ^ r = 0 := Nat.mul_mod_left _ _
theorem rp_zero {r k : Nat} (h : rpN r k = 0) : pc (k / 2 ^ r) = 0 := by
  unfold rpN at h
  have hp := Nat.two_pow_pos r
  rcases Nat.mul_eq_zero.1 h with e | e
  · rw [e]; rfl
  · omega
/-- A number with all missed bits is its real part and those. -/
theorem form_eq {r k : Nat} (h : k % 2 ^ r = 2 ^ r - 1) : k = rpN r k + mN r := by
  have := Nat.div_add_mod k (2 ^ r)
  unfold rpN mN
  rw [Nat.mul_comm]; omega
theorem add_mod0 {a b m : Nat} (h1 : a % m = 0) (h2 : b % m = 0) : (a + b) % m = 0 := by
  rw [Nat.add_mod, h1, h2]; simp
/-- A step of the program: with too many real bits there is no code up to the next number. -/
theorem next_step {r w k : Nat} (hr : r ≤ 12) (hk : k < 4096) (hm : k % 2 ^ r = 2 ^ r - 1) (hw : w < pc (rpN r k)) :
    (k + lowN (rpN r k)) % 2 ^ r = 2 ^ r - 1 ∧ (∀ x, k ≤ x → x < k + lowN (rpN r k) → isC r w x = false) := by
  have hl := rpN_le r k
  have h0 : rpN r k ≠ 0 := fun e => by rw [e] at hw; exact absurd hw (by rw [pc_zero]; omega)
  have lm := low_mod (by omega) h0 hr (rp_mod r k)
  have hp := Nat.two_pow_pos r
  refine ⟨?_, fun x h1 h2 => Bool.eq_false_iff.2 (fun g => ?_)⟩
  · have e := form_eq hm
    rw [show k + lowN (rpN r k) = (rpN r k + lowN (rpN r k)) + mN r by omega, Nat.add_mod, add_mod0 (rp_mod r k) lm, Nat.zero_add, Nat.mod_mod]
    exact Nat.mod_eq_of_lt (by unfold mN; omega)
  · obtain ⟨g1, g2, g3⟩ := isC_iff.1 g
    have ex := form_eq g2
    have ek := form_eq hm
    have hxl := rpN_le r x
    obtain ⟨u, hu⟩ : ∃ u, rpN r x = rpN r k + u := ⟨rpN r x - rpN r k, by omega⟩
    have h4 := low_more (x := rpN r k) (u := u) (by omega) h0 (by omega) (by omega)
    rw [← hu, rp_pc g1] at h4
    omega
theorem or_mod {r n : Nat} : orN r n % 2 ^ r = 2 ^ r - 1 := by
  have hp := Nat.two_pow_pos r
  unfold orN mN
  rw [Nat.mul_comm, Nat.mul_add_mod]
  exact Nat.mod_eq_of_lt (by omega)
theorem or_ge {r n : Nat} : n ≤ orN r n := by
  have hp := Nat.two_pow_pos r
  have := Nat.div_add_mod n (2 ^ r)
  have := Nat.mod_lt n hp
  unfold orN mN
  rw [Nat.mul_comm]; omega
theorem or_none {r w n x : Nat} (h1 : n ≤ x) (h2 : x < orN r n) : isC r w x = false := by
  refine Bool.eq_false_iff.2 (fun g => ?_)
  have ex := form_eq (isC_iff.1 g).2.1
  have hd : n / 2 ^ r ≤ x / 2 ^ r := Nat.div_le_div_right h1
  have := Nat.mul_le_mul_right (2 ^ r) hd
  unfold orN at h2
  unfold rpN at ex
  omega
end Go.Proofs.Ytkopbnppjhdbgaa
