/-
  Stage 12: the program's small functions: isRound, isForm, isCode, missed, hasMissed, realPart, hasBit, lowestBit, ones, choices.
-/
import Derived.Test.YtkopbnppjhdbgaaKNext
set_option linter.unusedSimpArgs false
set_option linter.unusedVariables false
namespace Go.Proofs.Ytkopbnppjhdbgaa
open Go.RowKit

/-- A round, a code, a round and a weight in their ranges. -/
def rndB (r : Int) : Bool := decide (0 ≤ r ∧ r < 13)
def cdB (k : Int) : Bool := decide (0 ≤ k ∧ k < 4096)
def frmB (r v : Int) : Bool := decide ((0 ≤ r ∧ r < 13) ∧ (0 ≤ v ∧ v ≤ 12))
theorem rndB_iff {r : Int} : rndB r = true ↔ 0 ≤ r ∧ r < 13 := decide_eq_true_iff
theorem cdB_iff {k : Int} : cdB k = true ↔ 0 ≤ k ∧ k < 4096 := decide_eq_true_iff
theorem frmB_iff {r v : Int} : frmB r v = true ↔ (0 ≤ r ∧ r < 13) ∧ (0 ≤ v ∧ v ≤ 12) := decide_eq_true_iff
theorem b_eq {a b : Bool} (h : a = true ↔ b = true) : a = b := Bool.eq_iff_iff.2 h
theorem b_dec {p : Prop} [Decidable p] {b : Bool} (h : p ↔ b = true) : decide p = b := Bool.eq_iff_iff.2 (by rw [decide_eq_true_iff]; exact h)
theorem b_no {b : Bool} (h : ¬ b = true) : false = b := (Bool.eq_false_iff.2 h).symm
theorem b_yes {b : Bool} (h : b = true) : true = b := h.symm

theorem isRound_any (r : Int) (w : World) : Calls Try.prog 67 #[.int .i64 r] w fun e w' => e = .returned (.bool (rndB r)) ∧ w = w' := by
  by_cases h0 : 0 ≤ r
  all_goals
    go_enter Try.func67, Try.ntmps67
    go_wp2
    go_ret
    exact ⟨ret_bool (by first | exact b_no (by rw [rndB_iff]; omega) | exact b_yes (by rw [rndB_iff]; omega) | exact b_dec (by rw [rndB_iff]; omega)), rfl⟩
theorem isCode_any (k : Int) (w : World) : Calls Try.prog 59 #[.int .i64 k] w fun e w' => e = .returned (.bool (cdB k)) ∧ w = w' := by
  by_cases h0 : 0 ≤ k
  all_goals
    go_enter Try.func59, Try.ntmps59
    go_wp2
    go_ret
    exact ⟨ret_bool (by first | exact b_no (by rw [cdB_iff]; omega) | exact b_yes (by rw [cdB_iff]; omega) | exact b_dec (by rw [cdB_iff]; omega)), rfl⟩
theorem isForm_any (r v : Int) (w : World) : Calls Try.prog 73 #[.int .i64 r, .int .i64 v] w fun e w' => e = .returned (.bool (frmB r v)) ∧ w = w' := by
  by_cases h0 : 0 ≤ r ∧ r < 13
  · by_cases h1 : 0 ≤ v
    all_goals
      go_enter Try.func73, Try.ntmps73
      go_wp2_with fail
      refine (isRound_any _ _).mono ?_
      rintro e w1 ⟨rfl, rfl⟩
      rw [rndB_iff.2 h0]
      go_wp2_with fail
      go_ret
      exact ⟨ret_bool (by first | exact b_no (by rw [frmB_iff]; omega) | exact b_yes (by rw [frmB_iff]; omega) | exact b_dec (by rw [frmB_iff]; omega)), rfl⟩
  · go_enter Try.func73, Try.ntmps73
    go_wp2_with fail
    refine (isRound_any _ _).mono ?_
    rintro e w1 ⟨rfl, rfl⟩
    rw [Bool.eq_false_iff.2 (fun g => h0 (rndB_iff.1 g))]
    go_wp2_with fail
    go_ret
    exact ⟨ret_bool (by first | exact b_no (by rw [frmB_iff]; omega) | exact b_yes (by rw [frmB_iff]; omega) | exact b_dec (by rw [frmB_iff]; omega)), rfl⟩
theorem form_any (r v : Int) (w : World) : Calls Try.prog 45 #[.int .i64 r, .int .i64 v] w fun e w' => e = .returned (.bool (frmB r v)) ∧ w = w' := by
  by_cases h0 : 0 ≤ r
  · by_cases h1 : r < 13
    · by_cases h2 : 0 ≤ v
      all_goals
        go_enter Try.func45, Try.ntmps45
        go_wp2
        go_ret
        exact ⟨ret_bool (by first | exact b_no (by rw [frmB_iff]; omega) | exact b_yes (by rw [frmB_iff]; omega) | exact b_dec (by rw [frmB_iff]; omega)), rfl⟩
    · go_enter Try.func45, Try.ntmps45
      go_wp2
      go_ret
      exact ⟨ret_bool (by first | exact b_no (by rw [frmB_iff]; omega) | exact b_yes (by rw [frmB_iff]; omega) | exact b_dec (by rw [frmB_iff]; omega)), rfl⟩
  · go_enter Try.func45, Try.ntmps45
    go_wp2
    go_ret
    exact ⟨ret_bool (by first | exact b_no (by rw [frmB_iff]; omega) | exact b_yes (by rw [frmB_iff]; omega) | exact b_dec (by rw [frmB_iff]; omega)), rfl⟩

theorem missed_any (r : Nat) (w : World) (hr : r ≤ 12) : Calls Try.prog 74 #[.int .i64 (r : Int)] w fun e w' => e = .returned (.int .i64 (mN r : Int)) ∧ w = w' := by
  have hp := pow_run hr
  have h1 := pow_le4096 hr
  have h2 := Nat.two_pow_pos r
  go_enter Try.func74, Try.ntmps74
  go_wp2_with fail
  go_ret
  refine ⟨ret_int ?_, rfl⟩
  have e : ((2 : Int) ^ r) = ((2 ^ r : Nat) : Int) := by simp
  unfold mN
  rw [e, show ((2 ^ r : Nat) : Int) - 1 = ((2 ^ r - 1 : Nat) : Int) by omega, wrap6 _ (by omega)]
theorem hasMissed_any (r k : Nat) (w : World) (hr : r ≤ 12) (hk : k < 4096) : Calls Try.prog 68 #[.int .i64 (k : Int), .int .i64 (r : Int)] w fun e w' => e = .returned (.bool (k % 2 ^ r == 2 ^ r - 1)) ∧ w = w' := by
  have hh := hm_run hr hk
  go_enter Try.func68, Try.ntmps68
  go_wp2_with fail
  refine (missed_any _ _ hr).mono ?_
  rintro e w1 ⟨rfl, rfl⟩
  go_wp2_with fail
  refine (missed_any _ _ hr).mono ?_
  rintro e w1 ⟨rfl, rfl⟩
  go_wp2_with fail
  go_ret
  refine ⟨ret_bool ?_, rfl⟩
  rw [show (k : Int) % 2 ^ r = ((k % 2 ^ r : Nat) : Int) by simp, Bool.eq_iff_iff, beq_iff_eq, beq_iff_eq]
  unfold mN
  omega
theorem realPart_any (r k : Nat) (w : World) (hr : r ≤ 12) (hk : k < 4096) : Calls Try.prog 76 #[.int .i64 (k : Int), .int .i64 (r : Int)] w fun e w' => e = .returned (.int .i64 (rpN r k : Int)) ∧ w = w' := by
  have hh := rp_run hr hk
  go_enter Try.func76, Try.ntmps76
  go_wp2_with fail
  refine (missed_any _ _ hr).mono ?_
  rintro e w1 ⟨rfl, rfl⟩
  go_wp2_with fail
  go_ret
  exact ⟨rfl, rfl⟩
theorem lowestBit_any (x : Nat) (w : World) (hx : x < 4096) (h0 : x ≠ 0) : Calls Try.prog 77 #[.int .i64 (x : Int)] w fun e w' => e = .returned (.int .i64 (lowN x : Int)) ∧ w = w' := by
  have hh := low_run hx h0
  rw [show ((x - 1 : Nat) : Int) = (x : Int) - 1 by omega] at hh
  go_enter Try.func77, Try.ntmps77
  go_wp2_with fail
  go_ret
  exact ⟨rfl, rfl⟩
theorem hasBit_any (k b : Nat) (w : World) (hk : k < 4096) (hb : b ≤ 12) : Calls Try.prog 69 #[.int .i64 (k : Int), .int .i64 (b : Int)] w fun e w' => e = .returned (.bool (k / 2 ^ b % 2 == 1)) ∧ w = w' := by
  have hd := Nat.div_le_self k (2 ^ b)
  have hh := one_and (k / 2 ^ b) (by omega)
  rw [← cast_shr] at hh
  go_enter Try.func69, Try.ntmps69
  go_wp2_with fail
  go_ret
  refine ⟨ret_bool ?_, rfl⟩
  rw [cast_shr, Bool.eq_iff_iff, beq_iff_eq, beq_iff_eq]
  omega
theorem pcF_le (f : Nat) : ∀ x, pcF f x ≤ f := by
  induction f with
  | zero => intro x; exact Nat.le_refl _
  | succ f ih => intro x; have := ih (x / 2); unfold pcF; omega
theorem pc_le (x : Nat) : pc x ≤ 12 := pcF_le 12 x
theorem ones_any (x : Nat) (w : World) (hx : x < 4096) : Calls Try.prog 75 #[.int .i64 (x : Int)] w fun e w' => e = .returned (.int .i64 (pc x : Int)) ∧ w = w' := by
  go_enter Try.func75, Try.ntmps75
  go_wp2
  go_loop [0, 3] (fun k n => ∃ y m : Nat, y < 4096 ∧ m + pc y = pc x ∧ k = .int .i64 y ∧ n = .int .i64 m) (fun k _ => (intOf k).toNat)
  case atStart => exact ⟨x, 0, hx, by omega, rfl, rfl⟩
  case round =>
    obtain ⟨y, m, hy, hm, rfl, rfl⟩ := hrel
    have hpx := pc_le x
    by_cases h0 : y = 0
    · subst h0
      have hm' := Lib.hid (show m = pc x by rw [← hm]; rfl)
      clear hm
      go_wp2
      go_ret
      exact ⟨ret_int (by rw [hm'.out]), rfl⟩
    · have hd := pc_drop hy h0
      have hi := andI y (y - 1) (by omega) (by omega)
      rw [show ((y - 1 : Nat) : Int) = (y : Int) - 1 by omega] at hi
      have h1 : ¬ (y : Int) = 0 := by omega
      go_wp2
      go_round
      case rel => exact ⟨y &&& (y - 1), m + 1, by omega, by omega, rfl, by go_num⟩
      case measure => simp [intOf]; omega
end Go.Proofs.Ytkopbnppjhdbgaa
