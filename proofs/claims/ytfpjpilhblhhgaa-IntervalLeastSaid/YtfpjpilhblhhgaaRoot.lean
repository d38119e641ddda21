/-
  The contracts of the two searches for a square root: the program's and the reference's.
-/
import Derived.Test.YtfpjpilhblhhgaaMath
import Derived.WalkKit
import Derived.WalkSpells
import Derived.WalkLawsBesides
import Derived.Deep.QuietTactic
import Derived.BigQuiet
import Derived.Lib.Hide
set_option linter.unusedSimpArgs false
set_option linter.unusedVariables false
namespace Go.Proofs.Ytfpjpilhblhhgaa
open Go.RowKit

theorem ret_int {k : IntKind} {a b : Int} (h : a = b) : Ending.returned (.int k a) = .returned (.int k b) := by rw [h]

theorem mid_sq (l h : Int) (h0 : 0 ≤ l) (h1 : l < h) (h2 : h ≤ 1073741824) : 0 ≤ (l + h + 1) / 2 * ((l + h + 1) / 2) ∧ (l + h + 1) / 2 * ((l + h + 1) / 2) ≤ 1152921504606846976 := by
  have a : 0 ≤ (l + h + 1) / 2 := by omega
  have b : (l + h + 1) / 2 ≤ 1073741824 := by omega
  exact ⟨Int.mul_nonneg a a, sq_mono a b⟩

set_option maxHeartbeats 400000 in
theorem floorRoot_any (n : Int) (w : World) (h0 : 0 ≤ n) (h1 : n ≤ 1000000000000) :
    Calls Try.prog 49 #[.int .i64 n] w fun e w' => e = .returned (.int .i64 (isq n)) ∧ w = w' := by
  go_enter Try.func49, Try.ntmps49
  go_wp2
  go_loop [3, 4] (fun a b => ∃ l h : Int, a = .int .i64 l ∧ b = .int .i64 h ∧ 0 ≤ l ∧ l ≤ h ∧ h ≤ 1000000 ∧ l * l ≤ n ∧ n < (h + 1) * (h + 1)) (fun a b => (intOf b - intOf a).toNat)
  case atStart => exact ⟨0, 1000000, rfl, rfl, by omega, by omega, by omega, by omega, by omega⟩
  case round =>
    obtain ⟨l, h, rfl, rfl, hl, hlh, hh, hlo, hhi⟩ := hrel
    by_cases hlt : l < h
    · have hm := mid_sq l h hl hlt (by omega)
      obtain ⟨hm1, hm2⟩ := hm
      by_cases hc : (l + h + 1) / 2 * ((l + h + 1) / 2) ≤ n
      · go_wp2
        go_round
        case rel => exact ⟨(l + h + 1) / 2, h, rfl, rfl, by omega, by omega, hh, hc, hhi⟩
        case measure => simp [intOf]; omega
      · go_wp2
        go_round
        case rel => exact ⟨l, (l + h + 1) / 2 - 1, rfl, rfl, by omega, by omega, by omega, hlo, by rw [Int.sub_add_cancel]; omega⟩
        case measure => simp [intOf]; omega
    · go_wp2
      go_ret
      have : l = h := by omega
      subst this
      exact ⟨ret_int (isq_eq hl hlo hhi).symm, rfl⟩

set_option maxHeartbeats 400000 in
theorem rootDown_any (n : Int) (w : World) (h0 : 0 ≤ n) (h1 : n ≤ 1000000000000) :
    Calls Try.prog 52 #[.int .i64 n] w fun e w' => e = .returned (.int .i64 (isq n)) ∧ w = w' := by
  go_enter Try.func52, Try.ntmps52
  go_wp2
  go_loop [3, 4] (fun a b => ∃ l h : Int, a = .int .i64 l ∧ b = .int .i64 h ∧ 0 ≤ l ∧ l ≤ h ∧ h ≤ 1073741824 ∧ l * l ≤ n ∧ n < (h + 1) * (h + 1)) (fun a b => (intOf b - intOf a).toNat)
  case atStart => exact ⟨0, 1073741824, rfl, rfl, by omega, by omega, by omega, by omega, by omega⟩
  case round =>
    obtain ⟨l, h, rfl, rfl, hl, hlh, hh, hlo, hhi⟩ := hrel
    by_cases hlt : l < h
    · have hm := mid_sq l h hl hlt (by omega)
      obtain ⟨hm1, hm2⟩ := hm
      by_cases hc : (l + h + 1) / 2 * ((l + h + 1) / 2) ≤ n
      · go_wp2
        go_round
        case rel => exact ⟨(l + h + 1) / 2, h, rfl, rfl, by omega, by omega, hh, hc, hhi⟩
        case measure => simp [intOf]; omega
      · go_wp2
        go_round
        case rel => exact ⟨l, (l + h + 1) / 2 - 1, rfl, rfl, by omega, by omega, by omega, hlo, by rw [Int.sub_add_cancel]; omega⟩
        case measure => simp [intOf]; omega
    · go_wp2
      go_ret
      have : l = h := by omega
      subst this
      exact ⟨ret_int (isq_eq hl hlo hhi).symm, rfl⟩

end Go.Proofs.Ytfpjpilhblhhgaa
