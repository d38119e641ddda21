/-
  The reference's Mul.
-/
import Derived.Test.YtfpjpilhblhhgaaOps
set_option linter.unusedSimpArgs false
set_option linter.unusedVariables false
namespace Go.Proofs.Ytfpjpilhblhhgaa
open Go.RowKit

/-- The size of a number. -/
def absI (n : Int) : Int := if n < 0 then -n else n

set_option maxHeartbeats 400000 in
theorem size_any (n : Int) (w : World) (h1 : -1000000000000 ≤ n) (h2 : n ≤ 1000000000000) :
    Calls Try.prog 51 #[.int .i64 n] w fun e w' => e = .returned (.int .i64 (absI n)) ∧ w = w' := by
  by_cases h : n < 0
  all_goals
    go_enter Try.func51, Try.ntmps51
    go_wp2
    go_ret
    exact ⟨ret_int (by unfold absI; first | rw [if_pos h] | rw [if_neg (by omega)]), rfl⟩

/-- The test of the reference, for a factor other than 0. -/
theorem size_test (x y : Int) (hy : y ≠ 0) : 1 ≤ absI y ∧ 0 ≤ absI x ∧ (1000000000000 / absI y < absI x ↔ sml (x * y) = false) := by
  have h := sml_abs y x (absI y) (absI x) (by unfold absI; omega) (by unfold absI; omega) (by unfold absI; omega) (by unfold absI; omega)
  rw [Int.mul_comm y x] at h
  exact ⟨by unfold absI; omega, by unfold absI; omega, h⟩
theorem size_yes {x y : Int} (hs : sml (x * y) = false) : (y != 0) = true ∧ 1 ≤ absI y ∧ 1000000000000 / absI y < absI x := by
  have hy : y ≠ 0 := by intro e; subst e; rw [Int.mul_zero] at hs; cases hs
  obtain ⟨h1, h2, h3⟩ := size_test x y hy
  exact ⟨by simp [hy], h1, h3.2 hs⟩
theorem size_no {x y : Int} (hy : y ≠ 0) (hs : sml (x * y) = true) : 1 ≤ absI y ∧ absI x ≤ 1000000000000 / absI y := by
  obtain ⟨h1, h2, h3⟩ := size_test x y hy
  exact ⟨h1, Int.not_lt.1 (fun h => by have := h3.1 h; rw [hs] at this; cases this)⟩
theorem quo_bd (y : Int) (h : 1 ≤ absI y) : 0 ≤ 1000000000000 / absI y ∧ 1000000000000 / absI y ≤ 1000000000000 := IntWalk.tdiv_le _ _ (by omega) h

/-- The lesser and the greater of two. -/
def min2 (x y : Int) : Int := if y < x then y else x
def max2 (x y : Int) : Int := if x < y then y else x
theorem run_min2 (P : Program) (w : World) (ts : Array TypeId) (t : TypeId) (x y : Int) : (Builtin.min_ ts t #[.int .i64 x, .int .i64 y]).run P w = .ok (.int .i64 (min2 x y)) w := by
  simp [Builtin.min_, Builtin.min2, min2]
theorem run_max2 (P : Program) (w : World) (ts : Array TypeId) (t : TypeId) (x y : Int) : (Builtin.max_ ts t #[.int .i64 x, .int .i64 y]).run P w = .ok (.int .i64 (max2 x y)) w := by
  simp [Builtin.max_, Builtin.max2, max2]



set_option maxRecDepth 100000 in
set_option maxHeartbeats 4000000 in
theorem rmul_ok00 (a b c d : Int) (w : World) (hv : vld a b = true) (hu : vld c d = true) (s1 : sml (a * c) = true) (s2 : sml (a * d) = true) (s3 : sml (b * c) = true) (s4 : sml (b * d) = true) (hc0 : c = 0) (hd0 : d = 0) :
    Calls Try.prog 38 #[ivl a b, ivl c d] w fun e w' => e = .returned (R3 ((min2 (min2 (min2 (min2 1000000000000 (a * c)) (a * d)) (b * c)) (b * d)), (max2 (max2 (max2 (max2 (-1000000000000) (a * c)) (a * d)) (b * c)) (b * d)), 0)) ∧ Below w.heap.size w w' := by
  obtain ⟨v1, v2, v3⟩ := vld_t hv
  obtain ⟨u1, u2, u3⟩ := vld_t hu
  have nc : (c != 0) = false := by simp [hc0]
  have nd : (d != 0) = false := by simp [hd0]
  obtain ⟨p0a, p0b⟩ := sml_t s1
  obtain ⟨p1a, p1b⟩ := sml_t s2
  obtain ⟨p2a, p2b⟩ := sml_t s3
  obtain ⟨p3a, p3b⟩ := sml_t s4
  clear hc0 hd0 s1 s2 s3 s4
  have hmin := @run_min2 Try.prog
  have hmax := @run_max2 Try.prog
  go_enter Try.func38, Try.ntmps38
  go_wp2_with fail
  refine (rvalid_any _ _ _).mono ?_
  rintro e w1 ⟨rfl, hb⟩
  obtain ⟨hc, hf⟩ := bcell hb
  have hz0 : w.heap.size < w1.heap.size := by have := hb.size; simp at this; omega
  have hz1 : w.heap.size + 1 < w1.heap.size := by have := hb.size; simp at this; omega
  have hz2 : w.heap.size + 1 + 1 < w1.heap.size := by have := hb.size; simp at this; omega
  simp only [World.size_alloc] at hc hf
  have hB := below3 hb
  go_wp2_with fail
  refine (rvalid_any _ _ _).mono ?_
  rintro e w2 ⟨rfl, hb2⟩
  have hy0 : w.heap.size < w2.heap.size := by have := hb2.size; omega
  have hy1 : w.heap.size + 1 < w2.heap.size := by have := hb2.size; omega
  have hy2 : w.heap.size + 1 + 1 < w2.heap.size := by have := hb2.size; omega
  have hB2 := hB.trans (hb2.mono (by omega))
  obtain ⟨hc2, hf2⟩ := bcell hb2
  have x0 : w2.cell? ⟨w.heap.size, 0, none⟩ = some (.int .i64 a) := by rw [hc2 _ _ hz0, hc _ _ (by omega)]; go_cell
  have x1 : w2.cell? ⟨w.heap.size, 1, none⟩ = some (.int .i64 b) := by rw [hc2 _ _ hz0, hc _ _ (by omega)]; go_cell
  have y0 : w2.cell? ⟨w.heap.size + 1, 0, none⟩ = some (.int .i64 c) := by rw [hc2 _ _ hz1, hc _ _ (by omega)]; go_cell
  have y1 : w2.cell? ⟨w.heap.size + 1, 1, none⟩ = some (.int .i64 d) := by rw [hc2 _ _ hz1, hc _ _ (by omega)]; go_cell
  have z0 : w2.cell? ⟨w.heap.size + 1 + 1, 0, none⟩ = some (.int .i64 0) := by rw [hc2 _ _ hz2, hc _ _ (by omega)]; go_cell
  have z1 : w2.cell? ⟨w.heap.size + 1 + 1, 1, none⟩ = some (.int .i64 0) := by rw [hc2 _ _ hz2, hc _ _ (by omega)]; go_cell
  have f0 : w2.frozen? ⟨w.heap.size + 1 + 1, 0, none⟩ = false := by rw [hf2 _ _ hz2, hf _ _ (by omega)]; simp [go_sem]
  have f1 : w2.frozen? ⟨w.heap.size + 1 + 1, 1, none⟩ = false := by rw [hf2 _ _ hz2, hf _ _ (by omega)]; simp [go_sem]
  clear hc hf hc2 hf2 hz0 hz1 hz2 hb hb2 hB
  go_wp2_with fail
  refine wp_loop_rounds 3 ?_
  rw [rounds_succ]
  go_wp2_with (go_at_call 51; refine (size_any _ _ (by omega) (by omega)).mono ?_; rintro e w' ⟨rfl, rfl⟩)
  refine wp_loop_rounds 3 ?_
  rw [rounds_succ]
  go_wp2_with (go_at_call 51; refine (size_any _ _ (by omega) (by omega)).mono ?_; rintro e w' ⟨rfl, rfl⟩)
  rw [rounds_succ]
  go_wp2_with (go_at_call 51; refine (size_any _ _ (by omega) (by omega)).mono ?_; rintro e w' ⟨rfl, rfl⟩)
  rw [rounds_succ]
  go_wp2_with (go_at_call 51; refine (size_any _ _ (by omega) (by omega)).mono ?_; rintro e w' ⟨rfl, rfl⟩)
  rw [rounds_succ]
  go_wp2_with (go_at_call 51; refine (size_any _ _ (by omega) (by omega)).mono ?_; rintro e w' ⟨rfl, rfl⟩)
  refine wp_loop_rounds 3 ?_
  rw [rounds_succ]
  go_wp2_with (go_at_call 51; refine (size_any _ _ (by omega) (by omega)).mono ?_; rintro e w' ⟨rfl, rfl⟩)
  rw [rounds_succ]
  go_wp2_with (go_at_call 51; refine (size_any _ _ (by omega) (by omega)).mono ?_; rintro e w' ⟨rfl, rfl⟩)
  rw [rounds_succ]
  go_wp2_with (go_at_call 51; refine (size_any _ _ (by omega) (by omega)).mono ?_; rintro e w' ⟨rfl, rfl⟩)
  rw [rounds_succ]
  go_wp2_with (go_at_call 51; refine (size_any _ _ (by omega) (by omega)).mono ?_; rintro e w' ⟨rfl, rfl⟩)
  have K0 : ∀ (lo hi : Int) (o1 o2 o3 : Obj), (((((w2.setCell ⟨w.heap.size + 1 + 1, 0, none⟩ (.int .i64 lo)).setCell ⟨w.heap.size + 1 + 1, 1, none⟩ (.int .i64 hi)).alloc o1).alloc o2).alloc o3).cell? ⟨w.heap.size + 1 + 1, 0, none⟩ = some (.int .i64 lo) := fun lo hi o1 o2 o3 => by
    simp [go_sem, z0, z1, hy0, hy1, hy2]
  have K1 : ∀ (lo hi : Int) (o1 o2 o3 : Obj), (((((w2.setCell ⟨w.heap.size + 1 + 1, 0, none⟩ (.int .i64 lo)).setCell ⟨w.heap.size + 1 + 1, 1, none⟩ (.int .i64 hi)).alloc o1).alloc o2).alloc o3).cell? ⟨w.heap.size + 1 + 1, 1, none⟩ = some (.int .i64 hi) := fun lo hi o1 o2 o3 => by
    simp [go_sem, z0, z1, hy0, hy1, hy2]
  refine bodyPost_ret (v := R3 ((min2 (min2 (min2 (min2 1000000000000 (a * c)) (a * d)) (b * c)) (b * d)), (max2 (max2 (max2 (max2 (-1000000000000) (a * c)) (a * d)) (b * c)) (b * d)), 0)) (by simp [results, Try.results38, go_sem, z0, z1, f0, f1, hy0, hy1, hy2, K0, K1]) rfl ⟨rfl, ?_⟩
  repeat (first | exact hB2 | refine Below.setCell ?_ (by simp; try omega) _ | refine Below.alloc ?_ (by simp; try omega) _)

set_option maxRecDepth 100000 in
set_option maxHeartbeats 4000000 in
theorem rmul_ok01 (a b c d : Int) (w : World) (hv : vld a b = true) (hu : vld c d = true) (s1 : sml (a * c) = true) (s2 : sml (a * d) = true) (s3 : sml (b * c) = true) (s4 : sml (b * d) = true) (hc0 : c = 0) (hd0 : d ≠ 0) :
    Calls Try.prog 38 #[ivl a b, ivl c d] w fun e w' => e = .returned (R3 ((min2 (min2 (min2 (min2 1000000000000 (a * c)) (a * d)) (b * c)) (b * d)), (max2 (max2 (max2 (max2 (-1000000000000) (a * c)) (a * d)) (b * c)) (b * d)), 0)) ∧ Below w.heap.size w w' := by
  obtain ⟨v1, v2, v3⟩ := vld_t hv
  obtain ⟨u1, u2, u3⟩ := vld_t hu
  have nc : (c != 0) = false := by simp [hc0]
  have nd : (d != 0) = true := by simp [hd0]
  obtain ⟨p0a, p0b⟩ := sml_t s1
  obtain ⟨p1a, p1b⟩ := sml_t s2
  obtain ⟨q1a, q1b⟩ := size_no hd0 s2
  obtain ⟨r1d, r2d⟩ := quo_bd d q1a
  obtain ⟨p2a, p2b⟩ := sml_t s3
  obtain ⟨p3a, p3b⟩ := sml_t s4
  obtain ⟨q3a, q3b⟩ := size_no hd0 s4
  clear hc0 hd0 s1 s2 s3 s4
  have hmin := @run_min2 Try.prog
  have hmax := @run_max2 Try.prog
  go_enter Try.func38, Try.ntmps38
  go_wp2_with fail
  refine (rvalid_any _ _ _).mono ?_
  rintro e w1 ⟨rfl, hb⟩
  obtain ⟨hc, hf⟩ := bcell hb
  have hz0 : w.heap.size < w1.heap.size := by have := hb.size; simp at this; omega
  have hz1 : w.heap.size + 1 < w1.heap.size := by have := hb.size; simp at this; omega
  have hz2 : w.heap.size + 1 + 1 < w1.heap.size := by have := hb.size; simp at this; omega
  simp only [World.size_alloc] at hc hf
  have hB := below3 hb
  go_wp2_with fail
  refine (rvalid_any _ _ _).mono ?_
  rintro e w2 ⟨rfl, hb2⟩
  have hy0 : w.heap.size < w2.heap.size := by have := hb2.size; omega
  have hy1 : w.heap.size + 1 < w2.heap.size := by have := hb2.size; omega
  have hy2 : w.heap.size + 1 + 1 < w2.heap.size := by have := hb2.size; omega
  have hB2 := hB.trans (hb2.mono (by omega))
  obtain ⟨hc2, hf2⟩ := bcell hb2
  have x0 : w2.cell? ⟨w.heap.size, 0, none⟩ = some (.int .i64 a) := by rw [hc2 _ _ hz0, hc _ _ (by omega)]; go_cell
  have x1 : w2.cell? ⟨w.heap.size, 1, none⟩ = some (.int .i64 b) := by rw [hc2 _ _ hz0, hc _ _ (by omega)]; go_cell
  have y0 : w2.cell? ⟨w.heap.size + 1, 0, none⟩ = some (.int .i64 c) := by rw [hc2 _ _ hz1, hc _ _ (by omega)]; go_cell
  have y1 : w2.cell? ⟨w.heap.size + 1, 1, none⟩ = some (.int .i64 d) := by rw [hc2 _ _ hz1, hc _ _ (by omega)]; go_cell
  have z0 : w2.cell? ⟨w.heap.size + 1 + 1, 0, none⟩ = some (.int .i64 0) := by rw [hc2 _ _ hz2, hc _ _ (by omega)]; go_cell
  have z1 : w2.cell? ⟨w.heap.size + 1 + 1, 1, none⟩ = some (.int .i64 0) := by rw [hc2 _ _ hz2, hc _ _ (by omega)]; go_cell
  have f0 : w2.frozen? ⟨w.heap.size + 1 + 1, 0, none⟩ = false := by rw [hf2 _ _ hz2, hf _ _ (by omega)]; simp [go_sem]
  have f1 : w2.frozen? ⟨w.heap.size + 1 + 1, 1, none⟩ = false := by rw [hf2 _ _ hz2, hf _ _ (by omega)]; simp [go_sem]
  clear hc hf hc2 hf2 hz0 hz1 hz2 hb hb2 hB
  go_wp2_with fail
  refine wp_loop_rounds 3 ?_
  rw [rounds_succ]
  go_wp2_with (go_at_call 51; refine (size_any _ _ (by omega) (by omega)).mono ?_; rintro e w' ⟨rfl, rfl⟩)
  refine wp_loop_rounds 3 ?_
  rw [rounds_succ]
  go_wp2_with (go_at_call 51; refine (size_any _ _ (by omega) (by omega)).mono ?_; rintro e w' ⟨rfl, rfl⟩)
  rw [rounds_succ]
  go_wp2_with (go_at_call 51; refine (size_any _ _ (by omega) (by omega)).mono ?_; rintro e w' ⟨rfl, rfl⟩)
  rw [rounds_succ]
  go_wp2_with (go_at_call 51; refine (size_any _ _ (by omega) (by omega)).mono ?_; rintro e w' ⟨rfl, rfl⟩)
  rw [rounds_succ]
  go_wp2_with (go_at_call 51; refine (size_any _ _ (by omega) (by omega)).mono ?_; rintro e w' ⟨rfl, rfl⟩)
  refine wp_loop_rounds 3 ?_
  rw [rounds_succ]
  go_wp2_with (go_at_call 51; refine (size_any _ _ (by omega) (by omega)).mono ?_; rintro e w' ⟨rfl, rfl⟩)
  rw [rounds_succ]
  go_wp2_with (go_at_call 51; refine (size_any _ _ (by omega) (by omega)).mono ?_; rintro e w' ⟨rfl, rfl⟩)
  rw [rounds_succ]
  go_wp2_with (go_at_call 51; refine (size_any _ _ (by omega) (by omega)).mono ?_; rintro e w' ⟨rfl, rfl⟩)
  rw [rounds_succ]
  go_wp2_with (go_at_call 51; refine (size_any _ _ (by omega) (by omega)).mono ?_; rintro e w' ⟨rfl, rfl⟩)
  have K0 : ∀ (lo hi : Int) (o1 o2 o3 : Obj), (((((w2.setCell ⟨w.heap.size + 1 + 1, 0, none⟩ (.int .i64 lo)).setCell ⟨w.heap.size + 1 + 1, 1, none⟩ (.int .i64 hi)).alloc o1).alloc o2).alloc o3).cell? ⟨w.heap.size + 1 + 1, 0, none⟩ = some (.int .i64 lo) := fun lo hi o1 o2 o3 => by
    simp [go_sem, z0, z1, hy0, hy1, hy2]
  have K1 : ∀ (lo hi : Int) (o1 o2 o3 : Obj), (((((w2.setCell ⟨w.heap.size + 1 + 1, 0, none⟩ (.int .i64 lo)).setCell ⟨w.heap.size + 1 + 1, 1, none⟩ (.int .i64 hi)).alloc o1).alloc o2).alloc o3).cell? ⟨w.heap.size + 1 + 1, 1, none⟩ = some (.int .i64 hi) := fun lo hi o1 o2 o3 => by
    simp [go_sem, z0, z1, hy0, hy1, hy2]
  refine bodyPost_ret (v := R3 ((min2 (min2 (min2 (min2 1000000000000 (a * c)) (a * d)) (b * c)) (b * d)), (max2 (max2 (max2 (max2 (-1000000000000) (a * c)) (a * d)) (b * c)) (b * d)), 0)) (by simp [results, Try.results38, go_sem, z0, z1, f0, f1, hy0, hy1, hy2, K0, K1]) rfl ⟨rfl, ?_⟩
  repeat (first | exact hB2 | refine Below.setCell ?_ (by simp; try omega) _ | refine Below.alloc ?_ (by simp; try omega) _)

set_option maxRecDepth 100000 in
set_option maxHeartbeats 4000000 in
theorem rmul_ok10 (a b c d : Int) (w : World) (hv : vld a b = true) (hu : vld c d = true) (s1 : sml (a * c) = true) (s2 : sml (a * d) = true) (s3 : sml (b * c) = true) (s4 : sml (b * d) = true) (hc0 : c ≠ 0) (hd0 : d = 0) :
    Calls Try.prog 38 #[ivl a b, ivl c d] w fun e w' => e = .returned (R3 ((min2 (min2 (min2 (min2 1000000000000 (a * c)) (a * d)) (b * c)) (b * d)), (max2 (max2 (max2 (max2 (-1000000000000) (a * c)) (a * d)) (b * c)) (b * d)), 0)) ∧ Below w.heap.size w w' := by
  obtain ⟨v1, v2, v3⟩ := vld_t hv
  obtain ⟨u1, u2, u3⟩ := vld_t hu
  have nc : (c != 0) = true := by simp [hc0]
  have nd : (d != 0) = false := by simp [hd0]
  obtain ⟨p0a, p0b⟩ := sml_t s1
  obtain ⟨q0a, q0b⟩ := size_no hc0 s1
  obtain ⟨r1c, r2c⟩ := quo_bd c q0a
  obtain ⟨p1a, p1b⟩ := sml_t s2
  obtain ⟨p2a, p2b⟩ := sml_t s3
  obtain ⟨q2a, q2b⟩ := size_no hc0 s3
  obtain ⟨p3a, p3b⟩ := sml_t s4
  clear hc0 hd0 s1 s2 s3 s4
  have hmin := @run_min2 Try.prog
  have hmax := @run_max2 Try.prog
  go_enter Try.func38, Try.ntmps38
  go_wp2_with fail
  refine (rvalid_any _ _ _).mono ?_
  rintro e w1 ⟨rfl, hb⟩
  obtain ⟨hc, hf⟩ := bcell hb
  have hz0 : w.heap.size < w1.heap.size := by have := hb.size; simp at this; omega
  have hz1 : w.heap.size + 1 < w1.heap.size := by have := hb.size; simp at this; omega
  have hz2 : w.heap.size + 1 + 1 < w1.heap.size := by have := hb.size; simp at this; omega
  simp only [World.size_alloc] at hc hf
  have hB := below3 hb
  go_wp2_with fail
  refine (rvalid_any _ _ _).mono ?_
  rintro e w2 ⟨rfl, hb2⟩
  have hy0 : w.heap.size < w2.heap.size := by have := hb2.size; omega
  have hy1 : w.heap.size + 1 < w2.heap.size := by have := hb2.size; omega
  have hy2 : w.heap.size + 1 + 1 < w2.heap.size := by have := hb2.size; omega
  have hB2 := hB.trans (hb2.mono (by omega))
  obtain ⟨hc2, hf2⟩ := bcell hb2
  have x0 : w2.cell? ⟨w.heap.size, 0, none⟩ = some (.int .i64 a) := by rw [hc2 _ _ hz0, hc _ _ (by omega)]; go_cell
  have x1 : w2.cell? ⟨w.heap.size, 1, none⟩ = some (.int .i64 b) := by rw [hc2 _ _ hz0, hc _ _ (by omega)]; go_cell
  have y0 : w2.cell? ⟨w.heap.size + 1, 0, none⟩ = some (.int .i64 c) := by rw [hc2 _ _ hz1, hc _ _ (by omega)]; go_cell
  have y1 : w2.cell? ⟨w.heap.size + 1, 1, none⟩ = some (.int .i64 d) := by rw [hc2 _ _ hz1, hc _ _ (by omega)]; go_cell
  have z0 : w2.cell? ⟨w.heap.size + 1 + 1, 0, none⟩ = some (.int .i64 0) := by rw [hc2 _ _ hz2, hc _ _ (by omega)]; go_cell
  have z1 : w2.cell? ⟨w.heap.size + 1 + 1, 1, none⟩ = some (.int .i64 0) := by rw [hc2 _ _ hz2, hc _ _ (by omega)]; go_cell
  have f0 : w2.frozen? ⟨w.heap.size + 1 + 1, 0, none⟩ = false := by rw [hf2 _ _ hz2, hf _ _ (by omega)]; simp [go_sem]
  have f1 : w2.frozen? ⟨w.heap.size + 1 + 1, 1, none⟩ = false := by rw [hf2 _ _ hz2, hf _ _ (by omega)]; simp [go_sem]
  clear hc hf hc2 hf2 hz0 hz1 hz2 hb hb2 hB
  go_wp2_with fail
  refine wp_loop_rounds 3 ?_
  rw [rounds_succ]
  go_wp2_with (go_at_call 51; refine (size_any _ _ (by omega) (by omega)).mono ?_; rintro e w' ⟨rfl, rfl⟩)
  refine wp_loop_rounds 3 ?_
  rw [rounds_succ]
  go_wp2_with (go_at_call 51; refine (size_any _ _ (by omega) (by omega)).mono ?_; rintro e w' ⟨rfl, rfl⟩)
  rw [rounds_succ]
  go_wp2_with (go_at_call 51; refine (size_any _ _ (by omega) (by omega)).mono ?_; rintro e w' ⟨rfl, rfl⟩)
  rw [rounds_succ]
  go_wp2_with (go_at_call 51; refine (size_any _ _ (by omega) (by omega)).mono ?_; rintro e w' ⟨rfl, rfl⟩)
  rw [rounds_succ]
  go_wp2_with (go_at_call 51; refine (size_any _ _ (by omega) (by omega)).mono ?_; rintro e w' ⟨rfl, rfl⟩)
  refine wp_loop_rounds 3 ?_
  rw [rounds_succ]
  go_wp2_with (go_at_call 51; refine (size_any _ _ (by omega) (by omega)).mono ?_; rintro e w' ⟨rfl, rfl⟩)
  rw [rounds_succ]
  go_wp2_with (go_at_call 51; refine (size_any _ _ (by omega) (by omega)).mono ?_; rintro e w' ⟨rfl, rfl⟩)
  rw [rounds_succ]
  go_wp2_with (go_at_call 51; refine (size_any _ _ (by omega) (by omega)).mono ?_; rintro e w' ⟨rfl, rfl⟩)
  rw [rounds_succ]
  go_wp2_with (go_at_call 51; refine (size_any _ _ (by omega) (by omega)).mono ?_; rintro e w' ⟨rfl, rfl⟩)
  have K0 : ∀ (lo hi : Int) (o1 o2 o3 : Obj), (((((w2.setCell ⟨w.heap.size + 1 + 1, 0, none⟩ (.int .i64 lo)).setCell ⟨w.heap.size + 1 + 1, 1, none⟩ (.int .i64 hi)).alloc o1).alloc o2).alloc o3).cell? ⟨w.heap.size + 1 + 1, 0, none⟩ = some (.int .i64 lo) := fun lo hi o1 o2 o3 => by
    simp [go_sem, z0, z1, hy0, hy1, hy2]
  have K1 : ∀ (lo hi : Int) (o1 o2 o3 : Obj), (((((w2.setCell ⟨w.heap.size + 1 + 1, 0, none⟩ (.int .i64 lo)).setCell ⟨w.heap.size + 1 + 1, 1, none⟩ (.int .i64 hi)).alloc o1).alloc o2).alloc o3).cell? ⟨w.heap.size + 1 + 1, 1, none⟩ = some (.int .i64 hi) := fun lo hi o1 o2 o3 => by
    simp [go_sem, z0, z1, hy0, hy1, hy2]
  refine bodyPost_ret (v := R3 ((min2 (min2 (min2 (min2 1000000000000 (a * c)) (a * d)) (b * c)) (b * d)), (max2 (max2 (max2 (max2 (-1000000000000) (a * c)) (a * d)) (b * c)) (b * d)), 0)) (by simp [results, Try.results38, go_sem, z0, z1, f0, f1, hy0, hy1, hy2, K0, K1]) rfl ⟨rfl, ?_⟩
  repeat (first | exact hB2 | refine Below.setCell ?_ (by simp; try omega) _ | refine Below.alloc ?_ (by simp; try omega) _)

set_option maxRecDepth 100000 in
set_option maxHeartbeats 4000000 in
theorem rmul_ok11 (a b c d : Int) (w : World) (hv : vld a b = true) (hu : vld c d = true) (s1 : sml (a * c) = true) (s2 : sml (a * d) = true) (s3 : sml (b * c) = true) (s4 : sml (b * d) = true) (hc0 : c ≠ 0) (hd0 : d ≠ 0) :
    Calls Try.prog 38 #[ivl a b, ivl c d] w fun e w' => e = .returned (R3 ((min2 (min2 (min2 (min2 1000000000000 (a * c)) (a * d)) (b * c)) (b * d)), (max2 (max2 (max2 (max2 (-1000000000000) (a * c)) (a * d)) (b * c)) (b * d)), 0)) ∧ Below w.heap.size w w' := by
  obtain ⟨v1, v2, v3⟩ := vld_t hv
  obtain ⟨u1, u2, u3⟩ := vld_t hu
  have nc : (c != 0) = true := by simp [hc0]
  have nd : (d != 0) = true := by simp [hd0]
  obtain ⟨p0a, p0b⟩ := sml_t s1
  obtain ⟨q0a, q0b⟩ := size_no hc0 s1
  obtain ⟨r1c, r2c⟩ := quo_bd c q0a
  obtain ⟨p1a, p1b⟩ := sml_t s2
  obtain ⟨q1a, q1b⟩ := size_no hd0 s2
  obtain ⟨r1d, r2d⟩ := quo_bd d q1a
  obtain ⟨p2a, p2b⟩ := sml_t s3
  obtain ⟨q2a, q2b⟩ := size_no hc0 s3
  obtain ⟨p3a, p3b⟩ := sml_t s4
  obtain ⟨q3a, q3b⟩ := size_no hd0 s4
  clear hc0 hd0 s1 s2 s3 s4
  have hmin := @run_min2 Try.prog
  have hmax := @run_max2 Try.prog
  go_enter Try.func38, Try.ntmps38
  go_wp2_with fail
  refine (rvalid_any _ _ _).mono ?_
  rintro e w1 ⟨rfl, hb⟩
  obtain ⟨hc, hf⟩ := bcell hb
  have hz0 : w.heap.size < w1.heap.size := by have := hb.size; simp at this; omega
  have hz1 : w.heap.size + 1 < w1.heap.size := by have := hb.size; simp at this; omega
  have hz2 : w.heap.size + 1 + 1 < w1.heap.size := by have := hb.size; simp at this; omega
  simp only [World.size_alloc] at hc hf
  have hB := below3 hb
  go_wp2_with fail
  refine (rvalid_any _ _ _).mono ?_
  rintro e w2 ⟨rfl, hb2⟩
  have hy0 : w.heap.size < w2.heap.size := by have := hb2.size; omega
  have hy1 : w.heap.size + 1 < w2.heap.size := by have := hb2.size; omega
  have hy2 : w.heap.size + 1 + 1 < w2.heap.size := by have := hb2.size; omega
  have hB2 := hB.trans (hb2.mono (by omega))
  obtain ⟨hc2, hf2⟩ := bcell hb2
  have x0 : w2.cell? ⟨w.heap.size, 0, none⟩ = some (.int .i64 a) := by rw [hc2 _ _ hz0, hc _ _ (by omega)]; go_cell
  have x1 : w2.cell? ⟨w.heap.size, 1, none⟩ = some (.int .i64 b) := by rw [hc2 _ _ hz0, hc _ _ (by omega)]; go_cell
  have y0 : w2.cell? ⟨w.heap.size + 1, 0, none⟩ = some (.int .i64 c) := by rw [hc2 _ _ hz1, hc _ _ (by omega)]; go_cell
  have y1 : w2.cell? ⟨w.heap.size + 1, 1, none⟩ = some (.int .i64 d) := by rw [hc2 _ _ hz1, hc _ _ (by omega)]; go_cell
  have z0 : w2.cell? ⟨w.heap.size + 1 + 1, 0, none⟩ = some (.int .i64 0) := by rw [hc2 _ _ hz2, hc _ _ (by omega)]; go_cell
  have z1 : w2.cell? ⟨w.heap.size + 1 + 1, 1, none⟩ = some (.int .i64 0) := by rw [hc2 _ _ hz2, hc _ _ (by omega)]; go_cell
  have f0 : w2.frozen? ⟨w.heap.size + 1 + 1, 0, none⟩ = false := by rw [hf2 _ _ hz2, hf _ _ (by omega)]; simp [go_sem]
  have f1 : w2.frozen? ⟨w.heap.size + 1 + 1, 1, none⟩ = false := by rw [hf2 _ _ hz2, hf _ _ (by omega)]; simp [go_sem]
  clear hc hf hc2 hf2 hz0 hz1 hz2 hb hb2 hB
  go_wp2_with fail
  refine wp_loop_rounds 3 ?_
  rw [rounds_succ]
  go_wp2_with (go_at_call 51; refine (size_any _ _ (by omega) (by omega)).mono ?_; rintro e w' ⟨rfl, rfl⟩)
  refine wp_loop_rounds 3 ?_
  rw [rounds_succ]
  go_wp2_with (go_at_call 51; refine (size_any _ _ (by omega) (by omega)).mono ?_; rintro e w' ⟨rfl, rfl⟩)
  rw [rounds_succ]
  go_wp2_with (go_at_call 51; refine (size_any _ _ (by omega) (by omega)).mono ?_; rintro e w' ⟨rfl, rfl⟩)
  rw [rounds_succ]
  go_wp2_with (go_at_call 51; refine (size_any _ _ (by omega) (by omega)).mono ?_; rintro e w' ⟨rfl, rfl⟩)
  rw [rounds_succ]
  go_wp2_with (go_at_call 51; refine (size_any _ _ (by omega) (by omega)).mono ?_; rintro e w' ⟨rfl, rfl⟩)
  refine wp_loop_rounds 3 ?_
  rw [rounds_succ]
  go_wp2_with (go_at_call 51; refine (size_any _ _ (by omega) (by omega)).mono ?_; rintro e w' ⟨rfl, rfl⟩)
  rw [rounds_succ]
  go_wp2_with (go_at_call 51; refine (size_any _ _ (by omega) (by omega)).mono ?_; rintro e w' ⟨rfl, rfl⟩)
  rw [rounds_succ]
  go_wp2_with (go_at_call 51; refine (size_any _ _ (by omega) (by omega)).mono ?_; rintro e w' ⟨rfl, rfl⟩)
  rw [rounds_succ]
  go_wp2_with (go_at_call 51; refine (size_any _ _ (by omega) (by omega)).mono ?_; rintro e w' ⟨rfl, rfl⟩)
  have K0 : ∀ (lo hi : Int) (o1 o2 o3 : Obj), (((((w2.setCell ⟨w.heap.size + 1 + 1, 0, none⟩ (.int .i64 lo)).setCell ⟨w.heap.size + 1 + 1, 1, none⟩ (.int .i64 hi)).alloc o1).alloc o2).alloc o3).cell? ⟨w.heap.size + 1 + 1, 0, none⟩ = some (.int .i64 lo) := fun lo hi o1 o2 o3 => by
    simp [go_sem, z0, z1, hy0, hy1, hy2]
  have K1 : ∀ (lo hi : Int) (o1 o2 o3 : Obj), (((((w2.setCell ⟨w.heap.size + 1 + 1, 0, none⟩ (.int .i64 lo)).setCell ⟨w.heap.size + 1 + 1, 1, none⟩ (.int .i64 hi)).alloc o1).alloc o2).alloc o3).cell? ⟨w.heap.size + 1 + 1, 1, none⟩ = some (.int .i64 hi) := fun lo hi o1 o2 o3 => by
    simp [go_sem, z0, z1, hy0, hy1, hy2]
  refine bodyPost_ret (v := R3 ((min2 (min2 (min2 (min2 1000000000000 (a * c)) (a * d)) (b * c)) (b * d)), (max2 (max2 (max2 (max2 (-1000000000000) (a * c)) (a * d)) (b * c)) (b * d)), 0)) (by simp [results, Try.results38, go_sem, z0, z1, f0, f1, hy0, hy1, hy2, K0, K1]) rfl ⟨rfl, ?_⟩
  repeat (first | exact hB2 | refine Below.setCell ?_ (by simp; try omega) _ | refine Below.alloc ?_ (by simp; try omega) _)

end Go.Proofs.Ytfpjpilhblhhgaa
