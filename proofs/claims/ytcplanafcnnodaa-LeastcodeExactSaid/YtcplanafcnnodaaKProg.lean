/-
  Stage 12: the program's small functions: isRound, isForm, isCode, missed, hasMissed, realPart, hasBit, lowestBit, ones, choices.
-/
import Derived.Test.YtcplanafcnnodaaKNext
set_option linter.unusedSimpArgs false
set_option linter.unusedVariables false
namespace Go.Proofs.Ytcplanafcnnodaa
open Go.RowKit

/-- A round, a code, a round and a weight in their ranges. -/
def rndB (r : Int) : Bool := decide (0 ≤ r ∧ r < 13)
def cdB (k : Int) : Bool := decide (0 ≤ k ∧ k < 4096)
def frmB (r v : Int) : Bool := decide ((0 ≤ r ∧ r < 13) ∧ (0 ≤ v ∧ v ≤ 12))
theorem rndB_iff {r : Int} : rndB r = true ↔ 0 ≤ r ∧ r < 13 := decide_eq_true_iff
theorem cdB_iff {k : Int} : cdB k = true ↔ 0 ≤ k ∧ k < 4096 := decide_eq_true_iff
theorem frmB_iff {r v : Int} : frmB r v = true ↔ (0 ≤ r ∧ r < 13) ∧ (0 ≤ v ∧ v ≤ 12) := decide_eq_true_iff
theorem b_eq {a b : Bool} (h : a = true ↔ b = true) : a = b := Bool.eq_iff_iff.2 h
theorem b_dec {p : Prop} [Decidable p] {b : Bool} (h : p ↔ b = true) : decide p = b := Bool.eq_iff_iff.2 (by rw [decide_eq_true_iff]; exact h)
theorem b_no {b : Bool} (h : ¬ b = true) : false = b := (Bool.eq_false_iff.2 h).symm
theorem b_yes {b : Bool} (h : b = true) : true = b := h.symm

theorem isRound_any (r : Int) (w : World) : Calls Try.prog 60 #[.int .i64 r] w fun e w' => e = .returned (.bool (rndB r)) ∧ w = w' := by
  by_cases h0 : 0 ≤ r
  all_goals
    go_enter Try.func60, Try.ntmps60
    go_wp2
    go_ret
    exact ⟨ret_bool (by first | exact b_no (by rw [rndB_iff]; omega) | exact b_yes (by rw [rndB_iff]; omega) | exact b_dec (by rw [rndB_iff]; omega)), rfl⟩
theorem isCode_any (k : Int) (w : World) : Calls Try.prog 58 #[.int .i64 k] w fun e w' => e = .returned (.bool (cdB k)) ∧ w = w' := by
  by_cases h0 : 0 ≤ k
  all_goals
    go_enter Try.func58, Try.ntmps58
    go_wp2
    go_ret
    exact ⟨ret_bool (by first | exact b_no (by rw [cdB_iff]; omega) | exact b_yes (by rw [cdB_iff]; omega) | exact b_dec (by rw [cdB_iff]; omega)), rfl⟩
theorem isForm_any (r v : Int) (w : World) : Calls Try.prog 39 #[.int .i64 r, .int .i64 v] w fun e w' => e = .returned (.bool (frmB r v)) ∧ w = w' := by
  by_cases h0 : 0 ≤ r ∧ r < 13
  · by_cases h1 : 0 ≤ v
    all_goals
      go_enter Try.func39, Try.ntmps39
      go_wp2_with fail
      refine (isRound_any _ _).mono ?_
      rintro e w1 ⟨rfl, rfl⟩
      rw [rndB_iff.2 h0]
      go_wp2_with fail
      go_ret
      exact ⟨ret_bool (by first | exact b_no (by rw [frmB_iff]; omega) | exact b_yes (by rw [frmB_iff]; omega) | exact b_dec (by rw [frmB_iff]; omega)), rfl⟩
  · go_enter Try.func39, Try.ntmps39
    go_wp2_with fail
    refine (isRound_any _ _).mono ?_
    rintro e w1 ⟨rfl, rfl⟩
    rw [Bool.eq_false_iff.2 (fun g => h0 (rndB_iff.1 g))]
    go_wp2_with fail
    go_ret
    exact ⟨ret_bool (by first | exact b_no (by rw [frmB_iff]; omega) | exact b_yes (by rw [frmB_iff]; omega) | exact b_dec (by rw [frmB_iff]; omega)), rfl⟩
theorem form_any (r v : Int) (w : World) : Calls Try.prog 49 #[.int .i64 r, .int .i64 v] w fun e w' => e = .returned (.bool (frmB r v)) ∧ w = w' := by
  by_cases h0 : 0 ≤ r
  · by_cases h1 : r < 13
    · by_cases h2 : 0 ≤ v
      all_goals
        go_enter Try.func49, Try.ntmps49
        go_wp2
        go_ret
        exact ⟨ret_bool (by first | exact b_no (by rw [frmB_iff]; omega) | exact b_yes (by rw [frmB_iff]; omega) | exact b_dec (by rw [frmB_iff]; omega)), rfl⟩
    · go_enter Try.func49, Try.ntmps49
      go_wp2
      go_ret
      exact ⟨ret_bool (by first | exact b_no (by rw [frmB_iff]; omega) | exact b_yes (by rw [frmB_iff]; omega) | exact b_dec (by rw [frmB_iff]; omega)), rfl⟩
  · go_enter Try.func49, Try.ntmps49
    go_wp2
    go_ret
    exact ⟨ret_bool (by first | exact b_no (by rw [frmB_iff]; omega) | exact b_yes (by rw [frmB_iff]; omega) | exact b_dec (by rw [frmB_iff]; omega)), rfl⟩

theorem missed_any (r : Nat) (w : World) (hr : r ≤ 12) : Calls Try.prog 56 #[.int .i64 (r : Int)] w fun e w' => e = .returned (.int .i64 (mN r : Int)) ∧ w = w' := by
  have hp := pow_run hr
  have h1 := pow_le4096 hr
  have h2 := Nat.two_pow_pos r
  go_enter Try.func56, Try.ntmps56
  go_wp2_with fail
  go_ret
  refine ⟨ret_int ?_, rfl⟩
  have e : ((2 : Int) ^ r) = ((2 ^ r : Nat) : Int) := by simp
  unfold mN
  rw [e, show ((2 ^ r : Nat) : Int) - 1 = ((2 ^ r - 1 : Nat) : Int) by omega, wrap6 _ (by omega)]
theorem realPart_any (r k : Nat) (w : World) (hr : r ≤ 12) (hk : k < 4096) : Calls Try.prog 67 #[.int .i64 (k : Int), .int .i64 (r : Int)] w fun e w' => e = .returned (.int .i64 (rpN r k : Int)) ∧ w = w' := by
  have hh := rp_run hr hk
  go_enter Try.func67, Try.ntmps67
  go_wp2_with fail
  refine (missed_any _ _ hr).mono ?_
  rintro e w1 ⟨rfl, rfl⟩
  go_wp2_with fail
  go_ret
  exact ⟨rfl, rfl⟩
theorem lowestBit_any (x : Nat) (w : World) (hx : x < 4096) (h0 : x ≠ 0) : Calls Try.prog 68 #[.int .i64 (x : Int)] w fun e w' => e = .returned (.int .i64 (lowN x : Int)) ∧ w = w' := by
  have hh := low_run hx h0
  rw [show ((x - 1 : Nat) : Int) = (x : Int) - 1 by omega] at hh
  go_enter Try.func68, Try.ntmps68
  go_wp2_with fail
  go_ret
  exact ⟨rfl, rfl⟩
theorem pcF_le (f : Nat) : ∀ x, pcF f x ≤ f := by
  induction f with
  | zero => intro x; exact Nat.le_refl _
  | succ f ih => intro x; have := ih (x / 2); unfold pcF; omega
theorem pc_le (x : Nat) : pc x ≤ 12 := pcF_le 12 x
theorem ones_any (x : Nat) (w : World) (hx : x < 4096) : Calls Try.prog 66 #[.int .i64 (x : Int)] w fun e w' => e = .returned (.int .i64 (pc x : Int)) ∧ w = w' := by
  go_enter Try.func66, Try.ntmps66
  go_wp2
  go_loop [0, 3] (fun k n => ∃ y m : Nat, y < 4096 ∧ m + pc y = pc x ∧ k = .int .i64 y ∧ n = .int .i64 m) (fun k _ => (intOf k).toNat)
  case atStart => exact ⟨x, 0, hx, by omega, rfl, rfl⟩
  case round =>
    obtain ⟨y, m, hy, hm, rfl, rfl⟩ := hrel
    have hpx := pc_le x
    by_cases h0 : y = 0
    · subst h0
      have hm' := Lib.hid (show m = pc x by rw [← hm]; rfl)
      clear hm
      go_wp2
      go_ret
      exact ⟨ret_int (by rw [hm'.out]), rfl⟩
    · have hd := pc_drop hy h0
      have hi := andI y (y - 1) (by omega) (by omega)
      rw [show ((y - 1 : Nat) : Int) = (y : Int) - 1 by omega] at hi
      have h1 : ¬ (y : Int) = 0 := by omega
      go_wp2
      go_round
      case rel => exact ⟨y &&& (y - 1), m + 1, by omega, by omega, rfl, by go_num⟩
      case measure => simp [intOf]; omega
theorem choices_any (n v : Nat) (w : World) (hn : n ≤ 12) (hv : v ≤ 12) : Calls Try.prog 40 #[.int .i64 (n : Int), .int .i64 (v : Int)] w fun e w' => e = .returned (.int .i64 (chN n v : Int)) ∧ w = w' := by
  go_enter Try.func40, Try.ntmps40
  go_wp2
  go_loop [5, 6, 7] (fun s b i => ∃ j : Nat, j ≤ v + 1 ∧ s = .int .i64 ((chP n j).1 : Nat) ∧ b = .int .i64 ((chP n j).2 : Nat) ∧ i = .int .i64 j) (fun _ _ i => v + 1 - (intOf i).toNat)
  case atStart => exact ⟨0, by omega, rfl, rfl, rfl⟩
  case round =>
    obtain ⟨j, hj, rfl, rfl, rfl⟩ := hrel
    have hb := chP_bd hn (show j ≤ 14 by omega)
    by_cases hlt : j ≤ v
    · have HN := Lib.hid (show chP n (j + 1) = ((chP n j).1 + (chP n j).2, (chP n j).2 * (n - j) / (j + 1)) from rfl)
      obtain ⟨S, hS⟩ : ∃ x, x = (chP n j).1 := ⟨_, rfl⟩
      obtain ⟨B, hB⟩ : ∃ x, x = (chP n j).2 := ⟨_, rfl⟩
      rw [← hS, ← hB] at hb HN ⊢
      clear hS hB
      have hq : (B : Int) * ((n : Int) - j) = ((B * (n - j) : Nat) : Int) := by
        rcases hb.2.2 with h | h
        · rw [Int.natCast_mul]; congr 1; omega
        · rw [h]; simp
      have hm : B * (n - j) ≤ 4096 * 12 := Nat.mul_le_mul hb.2.1 (by omega)
      go_wp2
      go_round
      case rel => exact ⟨j + 1, by omega, by rw [HN.out]; go_num, by rw [HN.out]; rfl, by go_num⟩
      case measure => simp [intOf]; omega
    · obtain rfl : j = v + 1 := by omega
      go_wp2
      go_ret
      exact ⟨ret_int rfl, rfl⟩
end Go.Proofs.Ytcplanafcnnodaa
