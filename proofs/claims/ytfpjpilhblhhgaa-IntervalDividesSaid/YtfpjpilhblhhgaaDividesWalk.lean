/-
  The walk of IntervalDivides: whatever the numbers, the law returns true and leaves old memory as it was.
-/
import Derived.Test.YtfpjpilhblhhgaaRootsWalk
import Derived.Test.YtfpjpilhblhhgaaMaker2
set_option linter.unusedSimpArgs false
set_option linter.unusedVariables false
namespace Go.Proofs.Ytfpjpilhblhhgaa
open Go.RowKit

theorem abs_of_mul (q d M : Int) (hd : 1 ≤ d) (h : -M ≤ q * d) (h2 : q * d ≤ M) : -M ≤ q ∧ q ≤ M := by
  have e : (q * d).natAbs = q.natAbs * d.natAbs := Int.natAbs_mul q d
  have g : q.natAbs * 1 ≤ q.natAbs * d.natAbs := Nat.mul_le_mul_left _ (by omega)
  omega

theorem bnd_in {q : Int} (h : -1000000000000 ≤ q ∧ q ≤ 1000000000000) : bnd q = (q, 0) := if_pos h

theorem floor_small (x d : Int) (w : World) (h1 : -100000 ≤ x) (h2 : x ≤ 100000) (h3 : 1 ≤ d) (h4 : d ≤ 1000) :
    Calls Try.prog 15 #[.int .i64 x, .int .i64 d] w fun e w' => e = .returned (.tuple #[.int .i64 (fdv x d), .int .i64 0]) ∧ ∃ n, w' = w.drewN n := by
  have h := floor_any x d w (by omega) (by omega)
  have ⟨f1, f2⟩ := fdv_spec x d (by omega)
  have g := abs_of_mul (fdv x d) d 1000000 h3 (by omega) (by omega)
  have e : flr x d = (fdv x d, 0) := by unfold flr; rw [if_neg (by omega), bnd_in (by omega)]
  rw [e] at h
  exact h
theorem ceil_small (x d : Int) (w : World) (h1 : -100000 ≤ x) (h2 : x ≤ 100000) (h3 : 1 ≤ d) (h4 : d ≤ 1000) :
    Calls Try.prog 16 #[.int .i64 x, .int .i64 d] w fun e w' => e = .returned (.tuple #[.int .i64 (cdv x d), .int .i64 0]) ∧ ∃ n, w' = w.drewN n := by
  have h := ceil_any x d w (by omega) (by omega)
  have ⟨f1, f2⟩ := cdv_spec x d (by omega)
  have g := abs_of_mul (cdv x d) d 1000000 h3 (by omega) (by omega)
  have e : cil x d = (cdv x d, 0) := by unfold cil; rw [if_neg (by omega), bnd_in (by omega)]
  rw [e] at h
  exact h

set_option maxRecDepth 100000 in
set_option maxHeartbeats 800000 in
theorem divides_walk (a b s : Int) (w : World) (a1 : -9223372036854775808 ≤ a) (a2 : a ≤ 9223372036854775807) (b1 : -9223372036854775808 ≤ b) (b2 : b ≤ 9223372036854775807) :
    Calls Try.prog 4 #[.int .i64 a, .int .i64 b, .int .i64 s] w fun e w' => e = .returned (.bool true) ∧ Below w.heap.size w w' := by
  have ⟨s1, s2⟩ := tmod_bd s 1000 (by omega)
  go_enter Try.func4, Try.ntmps4
  go_wp2_with fail
  generalize hs : s.tmod 1000 = r at *
  clear hs
  go_loopw [28] (fun i wr => ∃ k n : Nat, k ≤ 5 ∧ i = .int .i64 k ∧ wr = (w.alloc (.cells #[.int .i64 b, .int .i64 r, .int .i64 (-1), .int .i64 1, .int .i64 2] 3)).drewN n) (fun i _ => 5 - (intOf i).toNat)
  case atStart => exact ⟨0, 0, by omega, rfl, rfl⟩
  case round =>
    obtain ⟨k, n, hk, rfl, rfl⟩ := hrel
    by_cases hlt : k < 5
    · obtain ⟨d, hd0, _⟩ := new_pick w 3 (fun _ => True) [b, r, -1, 1, 2] (by simp) w.heap.size rfl k hlt
      have hd : (w.alloc (.cells #[.int .i64 b, .int .i64 r, .int .i64 (-1), .int .i64 1, .int .i64 2] 3)).cell? ⟨w.heap.size, k, none⟩ = some (.int .i64 d) := hd0
      clear hd0
      go_wp2_with fail
      refine (floor_any _ _ _ a1 a2).mono ?_
      rintro e w1 ⟨rfl, n1, rfl⟩
      go_wp2_with fail
      refine (ceil_any _ _ _ a1 a2).mono ?_
      rintro e w1 ⟨rfl, n2, rfl⟩
      go_wp2_with fail
      refine (rfloor_any _ _ _ a1 a2).mono ?_
      rintro e w1 ⟨rfl, n3, rfl⟩
      go_wp2_with fail
      refine (rceil_any _ _ _ a1 a2).mono ?_
      rintro e w1 ⟨rfl, n4, rfl⟩
      go_wp2_with fail
      go_roundw
      case rel => exact ⟨k + 1, _, by omega, by go_num, rfl⟩
      case measure => simp [intOf]; omega
    · have ⟨x1, x2⟩ := tmod_bd a 100000 (by omega)
      have ⟨y1, y2⟩ := tmod_bd b 500 (by omega)
      go_wp2_with fail
      have d1 : 1 ≤ 1 + b.tmod 500 % 500 := by omega
      have d2 : 1 + b.tmod 500 % 500 ≤ 500 := by omega
      generalize a.tmod 100000 = x at *
      generalize 1 + b.tmod 500 % 500 = d at *
      refine (floor_small x d _ (by omega) (by omega) d1 (by omega)).mono ?_
      rintro e w1 ⟨rfl, n1, rfl⟩
      go_wp2_with fail
      refine (ceil_small x d _ (by omega) (by omega) d1 (by omega)).mono ?_
      rintro e w1 ⟨rfl, n2, rfl⟩
      obtain ⟨f1, f2⟩ := fdv_spec x d (by omega)
      obtain ⟨c1, c2⟩ := cdv_spec x d (by omega)
      go_wp2_with fail
      refine (sane_any _).mono ?_
      rintro e w2 ⟨rfl, bb⟩
      go_wp2_with fail
      go_ret
      exact ⟨rfl, (bdn ((Below.refl _ _).alloc (Nat.le_refl _) _)).trans (bb.mono (by simp))⟩
end Go.Proofs.Ytfpjpilhblhhgaa
