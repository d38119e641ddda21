/-
  The contract of sane: the examples of the chapter come out true.
-/
import Derived.Test.YtfpjpilhblhhgaaScale
set_option linter.unusedSimpArgs false
set_option linter.unusedVariables false
namespace Go.Proofs.Ytfpjpilhblhhgaa
open Go.RowKit

theorem ex_mul : mulR (-2) 3 (-5) 4 = (-15, 12, 0) := by decide +kernel
theorem ex_scale : scaleR 1 10 1 3 = (0, 4, 0) := by decide +kernel
theorem ex_root : rootR 2 17 = (1, 5, 0) := by decide +kernel
theorem ex_floor : flr (-7) 2 = (-4, 0) := by decide +kernel
theorem ex_ceil : cil (-7) 2 = (-3, 0) := by decide +kernel

theorem mul_ex (w : World) : Calls Try.prog 23 #[ivl (-2) 3, ivl (-5) 4] w fun e w' => e = .returned (.tuple #[ivl (-15) 12, .int .i64 0]) ∧ Below w.heap.size w w' := by
  have h := mul_any (-2) 3 (-5) 4 w; rw [ex_mul] at h; exact h
theorem scale_ex (w : World) : Calls Try.prog 25 #[ivl 1 10, .int .i64 1, .int .i64 3] w fun e w' => e = .returned (.tuple #[ivl 0 4, .int .i64 0]) ∧ Below w.heap.size w w' := by
  have h := scale_any 1 10 1 3 w; rw [ex_scale] at h; exact h
theorem root_ex (w : World) : Calls Try.prog 28 #[ivl 2 17] w fun e w' => e = .returned (.tuple #[ivl 1 5, .int .i64 0]) ∧ Below w.heap.size w w' := by
  have h := root_any 2 17 w; rw [ex_root] at h; exact h
theorem floor_ex (w : World) : Calls Try.prog 15 #[.int .i64 (-7), .int .i64 2] w fun e w' => e = .returned (.tuple #[.int .i64 (-4), .int .i64 0]) ∧ ∃ n, w' = w.drewN n := by
  have h := floor_any (-7) 2 w (by omega) (by omega); rw [ex_floor] at h; exact h
theorem ceil_ex (w : World) : Calls Try.prog 16 #[.int .i64 (-7), .int .i64 2] w fun e w' => e = .returned (.tuple #[.int .i64 (-3), .int .i64 0]) ∧ ∃ n, w' = w.drewN n := by
  have h := ceil_any (-7) 2 w (by omega) (by omega); rw [ex_ceil] at h; exact h

set_option maxHeartbeats 400000 in
theorem sane_any (w : World) : Calls Try.prog 14 #[] w fun e w' => e = .returned (.bool true) ∧ Below w.heap.size w w' := by
  go_enter Try.func14, Try.ntmps14
  go_wp2_with fail
  refine (mul_ex _).mono ?_
  rintro e w1 ⟨rfl, b1⟩
  have z1 := b1.size
  go_wp2_with fail
  refine (scale_ex _).mono ?_
  rintro e w2 ⟨rfl, b2⟩
  obtain ⟨c2, f2⟩ := bcell b2
  have z2 : w1.heap.size < w2.heap.size := by have := b2.size; simp at this; omega
  simp only [World.size_alloc] at c2 f2
  go_wp2_with fail
  refine (root_ex _).mono ?_
  rintro e w3 ⟨rfl, b3⟩
  obtain ⟨c3, f3⟩ := bcell b3
  have z3 : w2.heap.size < w3.heap.size := by have := b3.size; simp at this; omega
  simp only [World.size_alloc] at c3 f3
  have z13 : w1.heap.size < w3.heap.size := by omega
  have k1 : w3.cell? ⟨w1.heap.size, 0, none⟩ = some (.int .i64 (-15)) := by rw [c3 _ _ (by omega)]; go_cell
  have k2 : w3.cell? ⟨w1.heap.size, 1, none⟩ = some (.int .i64 12) := by rw [c3 _ _ (by omega)]; go_cell
  have k3 : w3.cell? ⟨w2.heap.size, 0, none⟩ = some (.int .i64 0) := by rw [c3 _ _ (by omega)]; go_cell
  have k4 : w3.cell? ⟨w2.heap.size, 1, none⟩ = some (.int .i64 4) := by rw [c3 _ _ (by omega)]; go_cell
  clear c2 f2 c3 f3
  have b1' := b1
  have B3 : Below w.heap.size w w3 := ((((b1.alloc z1 _).trans (b2.mono (by simp; omega))).alloc (by omega) _).trans (b3.mono (by simp; omega)))
  clear b1 b2 b3 b1'
  go_wp2_with fail
  refine (floor_ex _).mono ?_
  rintro e w4 ⟨rfl, n1, rfl⟩
  go_wp2_with fail
  refine (ceil_ex _).mono ?_
  rintro e w4 ⟨rfl, n2, rfl⟩
  go_wp2_with fail
  go_ret
  exact ⟨rfl, bdn (B3.alloc (by omega) _)⟩

end Go.Proofs.Ytfpjpilhblhhgaa
