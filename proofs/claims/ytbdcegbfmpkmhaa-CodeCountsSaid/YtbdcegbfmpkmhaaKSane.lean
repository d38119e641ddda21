/-
  Stage 12: the examples of the chapter; the law's form.
-/
import Derived.Test.YtbdcegbfmpkmhaaKLawM
import Derived.Test.YtbdcegbfmpkmhaaLoc
import Derived.Test.YtbdcegbfmpkmhaaMkPick
set_option linter.unusedSimpArgs false
set_option linter.unusedVariables false
namespace Go.Proofs.Ytbdcegbfmpkmhaa
open Go.RowKit

set_option maxRecDepth 100000 in
theorem ex_next1 : nextZ 3 0 1 = (4, 0) := by decide +kernel
set_option maxRecDepth 100000 in
theorem ex_next2 : nextZ 4 2 12 = (7, 0) := by decide +kernel
set_option maxRecDepth 100000 in
theorem ex_next3 : nextZ 4 2 0 = (0, 15) := by decide +kernel
set_option maxRecDepth 100000 in
theorem ex_count : countZ 3 0 2 = (7, 0) := by decide +kernel
theorem sane_any (w : World) : Calls Try.prog 13 #[] w fun e w' => e = .returned (.bool true) ∧ w = w' := by
  go_enter Try.func13, Try.ntmps13
  go_wp2_with fail
  refine (next_code _ _ _ _ (by decide)).mono ?_
  rintro e w1 ⟨rfl, rfl⟩
  rw [ex_next1]
  go_wp2_with fail
  refine (next_code _ _ _ _ (by decide)).mono ?_
  rintro e w1 ⟨rfl, rfl⟩
  rw [ex_next2]
  go_wp2_with fail
  refine (count_code _ _ _ _).mono ?_
  rintro e w1 ⟨rfl, rfl⟩
  rw [ex_count]
  go_wp2_with fail
  refine (next_code _ _ _ _ (by decide)).mono ?_
  rintro e w1 ⟨rfl, rfl⟩
  rw [ex_next3]
  go_wp2_with fail
  go_ret
  exact ⟨rfl, rfl⟩
/-- A round and a weight. -/
def FormPost (m N : Nat) (w : World) (e : Ending) (w' : World) : Prop :=
  ∃ R V : Nat, e = .returned (.tuple #[.int .i64 (R : Int), .int .i64 (V : Int)]) ∧ R ≤ 12 ∧ V ≤ 12 ∧ IsMk w' m N ∧ Moves m w w'
set_option maxHeartbeats 800000 in
theorem form_law (m N : Nat) (w : World) (h : IsMk w m N) (hN : N ≤ 100000000) :
    Calls Try.prog 14 #[.pointer (some ⟨m, 0, none⟩)] w (FormPost m (N + 2) w) := by
  have hm := h.lt
  go_enter Try.func14, Try.ntmps14
  go_wp2_with fail
  refine (pick_any m N (fun v => 0 ≤ v ∧ v ≤ 12) _ 7 7 _ (h.alloc _) (by omega) (by omega) (by omega) (by omega) (by simp) (by exact new_pick _ _ _ [0, 0, 1, 2, 3, 6, 12] (by decide) _ rfl)).mono ?_
  rintro e w1 ⟨v, rfl, ⟨v1, v2⟩, k1, k2⟩
  obtain ⟨R, rfl⟩ := Int.eq_ofNat_of_zero_le v1
  have M1 := Lib.hid (show Moves m w w1 from ((Moves.refl m w).alloc _).trans k2)
  clear k2
  have hm1 := k1.lt
  go_wp2_with fail
  refine (pick_any m (N + 1) (fun v => 0 ≤ v ∧ v ≤ 12) _ 6 6 _ (k1.alloc _) (by omega) (by omega) (by omega) (by omega) (by simp) (by exact new_pick _ _ _ [0, 1, 2, 3, 5, 12] (by decide) _ rfl)).mono ?_
  rintro e w2 ⟨v, rfl, ⟨u1, u2⟩, k3, k4⟩
  obtain ⟨V, rfl⟩ := Int.eq_ofNat_of_zero_le u1
  have M2 := Lib.hid (show Moves m w w2 from (M1.out.alloc _).trans k4)
  clear k4
  go_wp2_with fail
  go_ret2
  exact ⟨R, V, rfl, by omega, by omega, k3, M2.out⟩
end Go.Proofs.Ytbdcegbfmpkmhaa
