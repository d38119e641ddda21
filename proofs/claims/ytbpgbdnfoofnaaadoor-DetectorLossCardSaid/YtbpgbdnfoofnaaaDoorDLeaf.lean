/-
  Stage 4: the small functions: a pulse's ranges, marks, digits.
-/
import Derived.Test.YtbpgbdnfoofnaaaDoorBase
import Derived.Test.YtbpgbdnfoofnaaaDoorDMath
set_option linter.unusedSimpArgs false
set_option linter.unusedVariables false
namespace Go.Proofs.YtbpgbdnfoofnaaaDoor
open Go.RowKit

/-- A pulse as a value. -/
abbrev pul (p : Pul) : Value := .agg #[.int .i64 p.1, .int .i64 p.2.1, .int .i64 p.2.2]
theorem ok_dec {p : Pul} {b : Bool} (h : b = true ↔ okP p) : b = decide (okP p) := by
  cases b with
  | true => exact (decide_eq_true (h.1 rfl)).symm
  | false => exact (decide_eq_false (fun g => by have := h.2 g; cases this)).symm
set_option maxHeartbeats 800000 in
theorem inRange_any (d t s : Int) (w : World) :
    Calls Tryd.prog 29 #[.agg #[.int .i64 d, .int .i64 t, .int .i64 s]] w fun e w' => e = .returned (.bool (decide (okP (d, t, s)))) ∧ Below w.heap.size w w' := by
  by_cases h1 : 0 ≤ d
  · by_cases h2 : d ≤ 31
    · by_cases h3 : 0 ≤ t
      · by_cases h4 : t ≤ 1000000000
        · by_cases h5 : s = 1
          · subst h5
            go_enter Tryd.func29, Tryd.ntmps29
            go_wp2
            go_ret
            exact ⟨ret_bool (ok_dec (by unfold okP; simp; omega)), (Below.refl _ _).alloc (Nat.le_refl _) _⟩
          · have h5' : (s == 1) = false := by rw [beq_eq_false_iff_ne]; exact h5
            go_enter Tryd.func29, Tryd.ntmps29
            go_wp2
            go_ret
            exact ⟨ret_bool (ok_dec (by unfold okP; simp; omega)), (Below.refl _ _).alloc (Nat.le_refl _) _⟩
        · go_enter Tryd.func29, Tryd.ntmps29
          go_wp2
          go_ret
          exact ⟨ret_bool (ok_dec (by unfold okP; simp; omega)), (Below.refl _ _).alloc (Nat.le_refl _) _⟩
      · go_enter Tryd.func29, Tryd.ntmps29
        go_wp2
        go_ret
        exact ⟨ret_bool (ok_dec (by unfold okP; simp; omega)), (Below.refl _ _).alloc (Nat.le_refl _) _⟩
    · go_enter Tryd.func29, Tryd.ntmps29
      go_wp2
      go_ret
      exact ⟨ret_bool (ok_dec (by unfold okP; simp; omega)), (Below.refl _ _).alloc (Nat.le_refl _) _⟩
  · go_enter Tryd.func29, Tryd.ntmps29
    go_wp2
    go_ret
    exact ⟨ret_bool (ok_dec (by unfold okP; simp; omega)), (Below.refl _ _).alloc (Nat.le_refl _) _⟩
set_option maxHeartbeats 800000 in
theorem sound_any (d t s : Int) (w : World) :
    Calls Tryd.prog 34 #[.agg #[.int .i64 d, .int .i64 t, .int .i64 s]] w fun e w' => e = .returned (.bool (decide (okP (d, t, s)))) ∧ Below w.heap.size w w' := by
  by_cases h1 : 0 ≤ d
  · by_cases h2 : d ≤ 31
    · by_cases h3 : 0 ≤ t
      · by_cases h4 : t ≤ 1000000000
        · by_cases h5 : s = 1
          · subst h5
            go_enter Tryd.func34, Tryd.ntmps34
            go_wp2
            go_ret
            exact ⟨ret_bool (ok_dec (by unfold okP; simp; omega)), (Below.refl _ _).alloc (Nat.le_refl _) _⟩
          · have h5' : (s == 1) = false := by rw [beq_eq_false_iff_ne]; exact h5
            go_enter Tryd.func34, Tryd.ntmps34
            go_wp2
            go_ret
            exact ⟨ret_bool (ok_dec (by unfold okP; simp; omega)), (Below.refl _ _).alloc (Nat.le_refl _) _⟩
        · go_enter Tryd.func34, Tryd.ntmps34
          go_wp2
          go_ret
          exact ⟨ret_bool (ok_dec (by unfold okP; simp; omega)), (Below.refl _ _).alloc (Nat.le_refl _) _⟩
      · go_enter Tryd.func34, Tryd.ntmps34
        go_wp2
        go_ret
        exact ⟨ret_bool (ok_dec (by unfold okP; simp; omega)), (Below.refl _ _).alloc (Nat.le_refl _) _⟩
    · go_enter Tryd.func34, Tryd.ntmps34
      go_wp2
      go_ret
      exact ⟨ret_bool (ok_dec (by unfold okP; simp; omega)), (Below.refl _ _).alloc (Nat.le_refl _) _⟩
  · go_enter Tryd.func34, Tryd.ntmps34
    go_wp2
    go_ret
    exact ⟨ret_bool (ok_dec (by unfold okP; simp; omega)), (Below.refl _ _).alloc (Nat.le_refl _) _⟩
theorem isMark_any (v : Int) (w : World) :
    Calls Tryd.prog 39 #[.int .i64 v] w fun e w' => e = .returned (.bool (mark v)) ∧ w = w' := by
  by_cases h : 1536 < v
  all_goals
    go_enter Tryd.func39, Tryd.ntmps39
    go_wp2
    go_ret
    exact ⟨ret_bool (by unfold mark; simp; omega), rfl⟩
theorem isDigit_any (v : Int) (w : World) :
    Calls Tryd.prog 52 #[.int .i64 v] w fun e w' => e = .returned (.bool (small v)) ∧ w = w' := by
  by_cases h : 0 ≤ v
  all_goals
    go_enter Tryd.func52, Tryd.ntmps52
    go_wp2
    go_ret
    exact ⟨ret_bool (by unfold small; simp; omega), rfl⟩
theorem rmark_any (v : Int) (w : World) :
    Calls Tryd.prog 45 #[.int .i64 v] w fun e w' => e = .returned (.bool (mark v)) ∧ w = w' := by
  by_cases h : 1537 ≤ v
  all_goals
    go_enter Tryd.func45, Tryd.ntmps45
    go_wp2
    go_ret
    exact ⟨ret_bool (by unfold mark; simp; omega), rfl⟩
theorem rsmall_any (v : Int) (w : World) :
    Calls Tryd.prog 56 #[.int .i64 v] w fun e w' => e = .returned (.bool (small v)) ∧ w = w' := by
  by_cases h : 0 ≤ v
  all_goals
    go_enter Tryd.func56, Tryd.ntmps56
    go_wp2
    go_ret
    exact ⟨ret_bool (by unfold small; simp; omega), rfl⟩
end Go.Proofs.YtbpgbdnfoofnaaaDoor
