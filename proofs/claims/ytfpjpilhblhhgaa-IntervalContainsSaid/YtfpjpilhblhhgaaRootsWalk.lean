/-
  The walk of IntervalRoots: whatever the number, the law returns true and leaves old memory as it was.
-/
import Derived.Test.YtfpjpilhblhhgaaSane
set_option linter.unusedSimpArgs false
set_option linter.unusedVariables false
namespace Go.Proofs.Ytfpjpilhblhhgaa
open Go.RowKit

theorem usq_spec (k : Int) (h0 : 0 ≤ k) (h1 : k ≤ 1000000000000) :
    0 ≤ usq k ∧ usq k ≤ 1000001 ∧ k ≤ usq k * usq k ∧ usq k * usq k ≤ 1000002000001 ∧ (usq k = 0 ∨ 0 ≤ (usq k - 1) * (usq k - 1) ∧ (usq k - 1) * (usq k - 1) < k) := by
  have g1 := isq_nonneg k
  have g2 := isq_bd h0 h1
  have g3 := isq_le h0
  have g4 := lt_isq h0
  have g6 : (isq k + 1) * (isq k + 1) ≤ 1000001 * 1000001 := sq_mono (by omega) (by omega)
  unfold usq
  by_cases h : isq k * isq k < k
  · rw [if_pos h]
    have e : isq k + 1 - 1 = isq k := by omega
    rw [e]
    exact ⟨by omega, by omega, by omega, by omega, Or.inr ⟨Int.mul_nonneg g1 g1, h⟩⟩
  · rw [if_neg h]
    have e : isq k * isq k = k := by omega
    refine ⟨g1, by omega, by omega, by omega, ?_⟩
    by_cases h3 : isq k = 0
    · exact Or.inl h3
    · refine Or.inr ⟨Int.mul_nonneg (by omega) (by omega), ?_⟩
      have e2 : (isq k - 1) * (isq k - 1) = isq k * isq k - 2 * isq k + 1 := by
        rw [Int.sub_mul, Int.mul_sub]; omega
      omega

theorem isq_spec (k : Int) (h0 : 0 ≤ k) (h1 : k ≤ 1000000000000) :
    0 ≤ isq k ∧ isq k ≤ 1000000 ∧ 0 ≤ isq k * isq k ∧ isq k * isq k ≤ k ∧ k < (isq k + 1) * (isq k + 1) ∧ (isq k + 1) * (isq k + 1) ≤ 1000002000001 := by
  have g1 := isq_nonneg k
  have g2 := isq_bd h0 h1
  have g6 : (isq k + 1) * (isq k + 1) ≤ 1000001 * 1000001 := sq_mono (by omega) (by omega)
  exact ⟨g1, g2, Int.mul_nonneg g1 g1, isq_le h0, lt_isq h0, by omega⟩

theorem root_one (k : Int) (w : World) (h0 : 0 ≤ k) (h1 : k ≤ 1000000000000) :
    Calls Try.prog 28 #[ivl k k] w fun e w' => e = .returned (.tuple #[ivl (isq k) (usq k), .int .i64 0]) ∧ Below w.heap.size w w' := by
  have h := root_any k k w
  have e : rootR k k = (isq k, usq k, 0) := by unfold rootR; rw [if_pos (vld_mk (by omega)), if_neg (by omega)]
  rw [e] at h
  exact h

theorem tmod_bd (n d : Int) (h : 0 < d) : -d < n.tmod d ∧ n.tmod d < d := by
  have hm : (n.tmod d).natAbs < d.natAbs := by
    rw [Int.natAbs_tmod]; exact Nat.mod_lt _ (by omega)
  omega

set_option maxHeartbeats 400000 in
theorem roots_walk (n : Int) (w : World) :
    Calls Try.prog 8 #[.int .i64 n] w fun e w' => e = .returned (.bool true) ∧ Below w.heap.size w w' := by
  have ⟨m1, m2⟩ := tmod_bd n 1000000000000 (by omega)
  by_cases hs : n.tmod 1000000000000 < 0
  · go_enter Try.func8, Try.ntmps8
    go_wp2_with fail
    have k0 : 0 ≤ -n.tmod 1000000000000 := by omega
    have k1 : -n.tmod 1000000000000 ≤ 1000000000000 := by omega
    generalize -n.tmod 1000000000000 = k at *
    refine (root_one k _ k0 k1).mono ?_
    rintro e w1 ⟨rfl, b1⟩
    have z1 := b1.size
    obtain ⟨i1, i2, i3, i4, i5, i6⟩ := isq_spec k k0 k1
    obtain ⟨u1, u2, u3, u4, u5⟩ := usq_spec k k0 k1
    by_cases u7 : usq k = 0
    · have u8 : (usq k == 0) = true := beq_iff_eq.2 u7
      clear u5 u7
      go_wp2_with fail
      refine (sane_any _).mono ?_
      rintro e w2 ⟨rfl, b2⟩
      go_wp2_with fail
      go_ret
      exact ⟨rfl, (b1.alloc z1 _).trans (b2.mono (by simp; omega))⟩
    · have u8 : (usq k == 0) = false := beq_eq_false_iff_ne.2 u7
      obtain ⟨u5, u6⟩ := u5.resolve_left u7
      clear u7
      go_wp2_with fail
      refine (sane_any _).mono ?_
      rintro e w2 ⟨rfl, b2⟩
      go_wp2_with fail
      go_ret
      exact ⟨rfl, (b1.alloc z1 _).trans (b2.mono (by simp; omega))⟩
  · go_enter Try.func8, Try.ntmps8
    go_wp2_with fail
    have k0 : 0 ≤ n.tmod 1000000000000 := by omega
    have k1 : n.tmod 1000000000000 ≤ 1000000000000 := by omega
    generalize n.tmod 1000000000000 = k at *
    refine (root_one k _ k0 k1).mono ?_
    rintro e w1 ⟨rfl, b1⟩
    have z1 := b1.size
    obtain ⟨i1, i2, i3, i4, i5, i6⟩ := isq_spec k k0 k1
    obtain ⟨u1, u2, u3, u4, u5⟩ := usq_spec k k0 k1
    by_cases u7 : usq k = 0
    · have u8 : (usq k == 0) = true := beq_iff_eq.2 u7
      clear u5 u7
      go_wp2_with fail
      refine (sane_any _).mono ?_
      rintro e w2 ⟨rfl, b2⟩
      go_wp2_with fail
      go_ret
      exact ⟨rfl, (b1.alloc z1 _).trans (b2.mono (by simp; omega))⟩
    · have u8 : (usq k == 0) = false := beq_eq_false_iff_ne.2 u7
      obtain ⟨u5, u6⟩ := u5.resolve_left u7
      clear u7
      go_wp2_with fail
      refine (sane_any _).mono ?_
      rintro e w2 ⟨rfl, b2⟩
      go_wp2_with fail
      go_ret
      exact ⟨rfl, (b1.alloc z1 _).trans (b2.mono (by simp; omega))⟩

end Go.Proofs.Ytfpjpilhblhhgaa
