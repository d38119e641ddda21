/-
  The walks of Floor, Ceil, Down and Up.
-/
import Derived.Test.YtfpjpilhblhhgaaFloor
set_option linter.unusedSimpArgs false
set_option linter.unusedVariables false
namespace Go.Proofs.Ytfpjpilhblhhgaa
open Go.RowKit

set_option maxHeartbeats 400000 in
/-- For a divisor other than 0; if it is -1, not for the least int. -/
theorem down_any (a b : Int) (w : World) (h0 : b ≠ 0) (h1 : -9223372036854775808 ≤ a) (h2 : a ≤ 9223372036854775807) (h3 : b = -1 → -9223372036854775807 ≤ a) :
    Calls Try.prog 26 #[.int .i64 a, .int .i64 b] w fun e w' => e = .returned (.int .i64 (fdv a b)) ∧ ∃ n, w' = w.drewN n := by
  have hbd := tdiv_bd a b h0 h1 h2 h3
  obtain ⟨q1, q2, q3⟩ := hbd
  clear h3
  have hb0 : (b == 0) = false := beq_eq_false_iff_ne.2 h0
  by_cases hr : a.tmod b = 0
  · have hr' : (a.tmod b != 0) = false := by simp [hr]
    have HR := Lib.hid hr
    clear hr q3
    go_enter Try.func26, Try.ntmps26
    go_wp2
    go_quiet (fail)
    go_wp2
    go_ret
    exact ⟨ret_int (by unfold fdv; rw [if_neg (by simp [HR.out])]), ⟨_, rfl⟩⟩
  · have hr' : (a.tmod b != 0) = true := by simp [hr]
    have HR := Lib.hid hr
    obtain ⟨q4, q5⟩ := q3 hr
    clear hr q3
    cases hs : decide (a.tmod b < 0)
    all_goals cases ht : decide (b < 0)
    all_goals
      go_enter Try.func26, Try.ntmps26
      go_wp2
      go_quiet (fail)
      go_wp2
      go_ret
      exact ⟨ret_int (by unfold fdv; simp only [decide_eq_true_eq, decide_eq_false_iff_not] at hs ht; first | rw [if_pos ⟨HR.out, by omega⟩] | rw [if_neg (fun h => by have := h.2; omega)]), ⟨_, rfl⟩⟩

set_option maxHeartbeats 400000 in
/-- For a divisor other than 0; if it is -1, not for the least int. -/
theorem up_any (a b : Int) (w : World) (h0 : b ≠ 0) (h1 : -9223372036854775808 ≤ a) (h2 : a ≤ 9223372036854775807) (h3 : b = -1 → -9223372036854775807 ≤ a) :
    Calls Try.prog 27 #[.int .i64 a, .int .i64 b] w fun e w' => e = .returned (.int .i64 (cdv a b)) ∧ ∃ n, w' = w.drewN n := by
  have hbd := tdiv_bd a b h0 h1 h2 h3
  obtain ⟨q1, q2, q3⟩ := hbd
  clear h3
  have hb0 : (b == 0) = false := beq_eq_false_iff_ne.2 h0
  by_cases hr : a.tmod b = 0
  · have hr' : (a.tmod b != 0) = false := by simp [hr]
    have HR := Lib.hid hr
    clear hr q3
    go_enter Try.func27, Try.ntmps27
    go_wp2
    go_quiet (fail)
    go_wp2
    go_ret
    exact ⟨ret_int (by unfold cdv; rw [if_neg (by simp [HR.out])]), ⟨_, rfl⟩⟩
  · have hr' : (a.tmod b != 0) = true := by simp [hr]
    have HR := Lib.hid hr
    obtain ⟨q4, q5⟩ := q3 hr
    clear hr q3
    cases hs : decide (a.tmod b < 0)
    all_goals cases ht : decide (b < 0)
    all_goals
      go_enter Try.func27, Try.ntmps27
      go_wp2
      go_quiet (fail)
      go_wp2
      go_ret
      exact ⟨ret_int (by unfold cdv; simp only [decide_eq_true_eq, decide_eq_false_iff_not] at hs ht; first | rw [if_pos ⟨HR.out, by omega⟩] | rw [if_neg (fun h => by have := h.2; omega)]), ⟨_, rfl⟩⟩

set_option maxHeartbeats 400000 in
theorem floor_any (a b : Int) (w : World) (h1 : -9223372036854775808 ≤ a) (h2 : a ≤ 9223372036854775807) :
    Calls Try.prog 15 #[.int .i64 a, .int .i64 b] w fun e w' => e = .returned (R2 (flr a b)) ∧ ∃ n, w' = w.drewN n := by
  by_cases h0 : b = 0
  · subst h0
    go_enter Try.func15, Try.ntmps15
    go_wp2_with fail
    go_ret2
    exact ⟨ret_r2 (if_pos rfl), ⟨0, rfl⟩⟩
  have hb0 : (b == 0) = false := beq_eq_false_iff_ne.2 h0
  by_cases h3 : b = -1 → -9223372036854775807 ≤ a
  · have hbd := tdiv_bd a b h0 h1 h2 h3
    obtain ⟨q1, q2, q3⟩ := hbd
    have HF : Hid (flr a b = bnd (fdv a b)) := Lib.hid (if_neg h0)
    clear h3
    by_cases hr : a.tmod b = 0
    · have hr' : (a.tmod b != 0) = false := by simp [hr]
      have HE : Hid (fdv a b = a.tdiv b) := Lib.hid (by unfold fdv; rw [if_neg (by simp [hr])])
      clear hr q3
      go_enter Try.func15, Try.ntmps15
      go_wp2_with fail
      go_quiet (fail)
      go_wp2_with (go_at_call 44; refine (quotient_any _ _).mono ?_; rintro e w' ⟨rfl, rfl⟩)
      go_ret2
      exact ⟨ret_r2' (by rw [HF.out, HE.out]), ⟨_, rfl⟩⟩
    · have hr' : (a.tmod b != 0) = true := by simp [hr]
      have HR := Lib.hid hr
      obtain ⟨q4, q5⟩ := q3 hr
      clear hr q3
      cases hs : decide (a.tmod b < 0)
      all_goals cases ht : decide (b < 0)
      all_goals
        go_enter Try.func15, Try.ntmps15
        go_wp2_with fail
        go_quiet (fail)
        go_wp2_with (go_at_call 44; refine (quotient_any _ _).mono ?_; rintro e w' ⟨rfl, rfl⟩)
        go_ret2
        exact ⟨ret_r2' (by rw [HF.out]; unfold fdv; simp only [decide_eq_true_eq, decide_eq_false_iff_not] at hs ht; first | rw [if_pos ⟨HR.out, by omega⟩] | rw [if_neg (fun h => by have := h.2; omega)]), ⟨_, rfl⟩⟩
  · obtain ⟨rfl, rfl⟩ : b = -1 ∧ a = -9223372036854775808 := by omega
    clear h3 h0 hb0 h1 h2
    go_enter Try.func15, Try.ntmps15
    go_wp2_with fail
    go_quiet (fail)
    go_wp2_with (go_at_call 44; refine (quotient_any _ _).mono ?_; rintro e w' ⟨rfl, rfl⟩)
    go_ret2
    exact ⟨ret_r2' (by unfold wrap64; decide +kernel), ⟨_, rfl⟩⟩

set_option maxHeartbeats 400000 in
theorem ceil_any (a b : Int) (w : World) (h1 : -9223372036854775808 ≤ a) (h2 : a ≤ 9223372036854775807) :
    Calls Try.prog 16 #[.int .i64 a, .int .i64 b] w fun e w' => e = .returned (R2 (cil a b)) ∧ ∃ n, w' = w.drewN n := by
  by_cases h0 : b = 0
  · subst h0
    go_enter Try.func16, Try.ntmps16
    go_wp2_with fail
    go_ret2
    exact ⟨ret_r2 (if_pos rfl), ⟨0, rfl⟩⟩
  have hb0 : (b == 0) = false := beq_eq_false_iff_ne.2 h0
  by_cases h3 : b = -1 → -9223372036854775807 ≤ a
  · have hbd := tdiv_bd a b h0 h1 h2 h3
    obtain ⟨q1, q2, q3⟩ := hbd
    have HF : Hid (cil a b = bnd (cdv a b)) := Lib.hid (if_neg h0)
    clear h3
    by_cases hr : a.tmod b = 0
    · have hr' : (a.tmod b != 0) = false := by simp [hr]
      have HE : Hid (cdv a b = a.tdiv b) := Lib.hid (by unfold cdv; rw [if_neg (by simp [hr])])
      clear hr q3
      go_enter Try.func16, Try.ntmps16
      go_wp2_with fail
      go_quiet (fail)
      go_wp2_with (go_at_call 44; refine (quotient_any _ _).mono ?_; rintro e w' ⟨rfl, rfl⟩)
      go_ret2
      exact ⟨ret_r2' (by rw [HF.out, HE.out]), ⟨_, rfl⟩⟩
    · have hr' : (a.tmod b != 0) = true := by simp [hr]
      have HR := Lib.hid hr
      obtain ⟨q4, q5⟩ := q3 hr
      clear hr q3
      cases hs : decide (a.tmod b < 0)
      all_goals cases ht : decide (b < 0)
      all_goals
        go_enter Try.func16, Try.ntmps16
        go_wp2_with fail
        go_quiet (fail)
        go_wp2_with (go_at_call 44; refine (quotient_any _ _).mono ?_; rintro e w' ⟨rfl, rfl⟩)
        go_ret2
        exact ⟨ret_r2' (by rw [HF.out]; unfold cdv; simp only [decide_eq_true_eq, decide_eq_false_iff_not] at hs ht; first | rw [if_pos ⟨HR.out, by omega⟩] | rw [if_neg (fun h => by have := h.2; omega)]), ⟨_, rfl⟩⟩
  · obtain ⟨rfl, rfl⟩ : b = -1 ∧ a = -9223372036854775808 := by omega
    clear h3 h0 hb0 h1 h2
    go_enter Try.func16, Try.ntmps16
    go_wp2_with fail
    go_quiet (fail)
    go_wp2_with (go_at_call 44; refine (quotient_any _ _).mono ?_; rintro e w' ⟨rfl, rfl⟩)
    go_ret2
    exact ⟨ret_r2' (by unfold wrap64; decide +kernel), ⟨_, rfl⟩⟩

set_option maxHeartbeats 400000 in
theorem rfloor_any (a b : Int) (w : World) (h1 : -9223372036854775808 ≤ a) (h2 : a ≤ 9223372036854775807) :
    Calls Try.prog 17 #[.int .i64 a, .int .i64 b] w fun e w' => e = .returned (R2 (flr a b)) ∧ ∃ n, w' = w.drewN n := by
  by_cases h0 : b = 0
  · subst h0
    go_enter Try.func17, Try.ntmps17
    go_wp2_with fail
    go_ret2
    exact ⟨ret_r2 (if_pos rfl), ⟨0, rfl⟩⟩
  have hb0 : (b == 0) = false := beq_eq_false_iff_ne.2 h0
  have HF : Hid (flr a b = bnd (fdv a b)) := Lib.hid (if_neg h0)
  by_cases h3 : b = -1
  · by_cases h4 : a < -1000000000000
    · subst h3
      have HG : Hid (flr a (-1) = (0, 4)) := Lib.hid (by rw [HF.out]; unfold fdv bnd; simp; omega)
      go_enter Try.func17, Try.ntmps17
      go_wp2_with fail
      go_ret2
      exact ⟨ret_r2 HG.out, ⟨0, rfl⟩⟩
    · have hd : (b == -1) = true := beq_iff_eq.2 h3
      have HI := fun w => down_any a b w h0 h1 h2 (fun _ => by omega)
      clear h3
      go_enter Try.func17, Try.ntmps17
      go_wp2_with fail
      refine (HI _).mono ?_
      rintro e w' ⟨rfl, n, rfl⟩
      go_wp2_with fail
      refine (bounded_any _ _).mono ?_
      rintro e w' ⟨rfl, rfl⟩
      go_wp2_with fail
      go_ret2
      exact ⟨ret_r2' (by rw [HF.out]), ⟨_, rfl⟩⟩
  · have hd : (b == -1) = false := beq_eq_false_iff_ne.2 h3
    have HI := fun w => down_any a b w h0 h1 h2 (fun h => absurd h h3)
    clear h3
    go_enter Try.func17, Try.ntmps17
    go_wp2_with fail
    refine (HI _).mono ?_
    rintro e w' ⟨rfl, n, rfl⟩
    go_wp2_with fail
    refine (bounded_any _ _).mono ?_
    rintro e w' ⟨rfl, rfl⟩
    go_wp2_with fail
    go_ret2
    exact ⟨ret_r2' (by rw [HF.out]), ⟨_, rfl⟩⟩

set_option maxHeartbeats 400000 in
theorem rceil_any (a b : Int) (w : World) (h1 : -9223372036854775808 ≤ a) (h2 : a ≤ 9223372036854775807) :
    Calls Try.prog 18 #[.int .i64 a, .int .i64 b] w fun e w' => e = .returned (R2 (cil a b)) ∧ ∃ n, w' = w.drewN n := by
  by_cases h0 : b = 0
  · subst h0
    go_enter Try.func18, Try.ntmps18
    go_wp2_with fail
    go_ret2
    exact ⟨ret_r2 (if_pos rfl), ⟨0, rfl⟩⟩
  have hb0 : (b == 0) = false := beq_eq_false_iff_ne.2 h0
  have HF : Hid (cil a b = bnd (cdv a b)) := Lib.hid (if_neg h0)
  by_cases h3 : b = -1
  · by_cases h4 : a < -1000000000000
    · subst h3
      have HG : Hid (cil a (-1) = (0, 4)) := Lib.hid (by rw [HF.out]; unfold cdv bnd; simp; omega)
      go_enter Try.func18, Try.ntmps18
      go_wp2_with fail
      go_ret2
      exact ⟨ret_r2 HG.out, ⟨0, rfl⟩⟩
    · have hd : (b == -1) = true := beq_iff_eq.2 h3
      have HI := fun w => up_any a b w h0 h1 h2 (fun _ => by omega)
      clear h3
      go_enter Try.func18, Try.ntmps18
      go_wp2_with fail
      refine (HI _).mono ?_
      rintro e w' ⟨rfl, n, rfl⟩
      go_wp2_with fail
      refine (bounded_any _ _).mono ?_
      rintro e w' ⟨rfl, rfl⟩
      go_wp2_with fail
      go_ret2
      exact ⟨ret_r2' (by rw [HF.out]), ⟨_, rfl⟩⟩
  · have hd : (b == -1) = false := beq_eq_false_iff_ne.2 h3
    have HI := fun w => up_any a b w h0 h1 h2 (fun h => absurd h h3)
    clear h3
    go_enter Try.func18, Try.ntmps18
    go_wp2_with fail
    refine (HI _).mono ?_
    rintro e w' ⟨rfl, n, rfl⟩
    go_wp2_with fail
    refine (bounded_any _ _).mono ?_
    rintro e w' ⟨rfl, rfl⟩
    go_wp2_with fail
    go_ret2
    exact ⟨ret_r2' (by rw [HF.out]), ⟨_, rfl⟩⟩

end Go.Proofs.Ytfpjpilhblhhgaa
