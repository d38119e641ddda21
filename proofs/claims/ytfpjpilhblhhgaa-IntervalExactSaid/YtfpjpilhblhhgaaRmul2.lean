/-
  The reference's Mul: the ways on which a product is too large.
-/
import Derived.Test.YtfpjpilhblhhgaaRmul
set_option linter.unusedSimpArgs false
set_option linter.unusedVariables false
namespace Go.Proofs.Ytfpjpilhblhhgaa
open Go.RowKit


set_option maxRecDepth 100000 in
set_option maxHeartbeats 4000000 in
theorem rmul_big1 (a b c d : Int) (w : World) (hv : vld a b = true) (hu : vld c d = true)  (s1 : sml (a * c) = false) (hc0 : c ≠ 0) :
    Calls Try.prog 38 #[ivl a b, ivl c d] w fun e w' => e = .returned (R3 (0, 0, 4)) ∧ Below w.heap.size w w' := by
  obtain ⟨v1, v2, v3⟩ := vld_t hv
  obtain ⟨u1, u2, u3⟩ := vld_t hu
  obtain ⟨nyc, qac, qf⟩ := size_yes s1
  obtain ⟨r1c, r2c⟩ := quo_bd c qac
  clear hc0 s1
  have hmin := @run_min2 Try.prog
  have hmax := @run_max2 Try.prog
  go_enter Try.func38, Try.ntmps38
  go_wp2_with fail
  refine (rvalid_any _ _ _).mono ?_
  rintro e w1 ⟨rfl, hb⟩
  obtain ⟨hc, hf⟩ := bcell hb
  have hz0 : w.heap.size < w1.heap.size := by have := hb.size; simp at this; omega
  have hz1 : w.heap.size + 1 < w1.heap.size := by have := hb.size; simp at this; omega
  have hz2 : w.heap.size + 1 + 1 < w1.heap.size := by have := hb.size; simp at this; omega
  simp only [World.size_alloc] at hc hf
  have hB := below3 hb
  go_wp2_with fail
  refine (rvalid_any _ _ _).mono ?_
  rintro e w2 ⟨rfl, hb2⟩
  have hy0 : w.heap.size < w2.heap.size := by have := hb2.size; omega
  have hy1 : w.heap.size + 1 < w2.heap.size := by have := hb2.size; omega
  have hy2 : w.heap.size + 1 + 1 < w2.heap.size := by have := hb2.size; omega
  have hB2 := hB.trans (hb2.mono (by omega))
  obtain ⟨hc2, hf2⟩ := bcell hb2
  have x0 : w2.cell? ⟨w.heap.size, 0, none⟩ = some (.int .i64 a) := by rw [hc2 _ _ hz0, hc _ _ (by omega)]; go_cell
  have x1 : w2.cell? ⟨w.heap.size, 1, none⟩ = some (.int .i64 b) := by rw [hc2 _ _ hz0, hc _ _ (by omega)]; go_cell
  have y0 : w2.cell? ⟨w.heap.size + 1, 0, none⟩ = some (.int .i64 c) := by rw [hc2 _ _ hz1, hc _ _ (by omega)]; go_cell
  have y1 : w2.cell? ⟨w.heap.size + 1, 1, none⟩ = some (.int .i64 d) := by rw [hc2 _ _ hz1, hc _ _ (by omega)]; go_cell
  have z0 : w2.cell? ⟨w.heap.size + 1 + 1, 0, none⟩ = some (.int .i64 0) := by rw [hc2 _ _ hz2, hc _ _ (by omega)]; go_cell
  have z1 : w2.cell? ⟨w.heap.size + 1 + 1, 1, none⟩ = some (.int .i64 0) := by rw [hc2 _ _ hz2, hc _ _ (by omega)]; go_cell
  have f0 : w2.frozen? ⟨w.heap.size + 1 + 1, 0, none⟩ = false := by rw [hf2 _ _ hz2, hf _ _ (by omega)]; simp [go_sem]
  have f1 : w2.frozen? ⟨w.heap.size + 1 + 1, 1, none⟩ = false := by rw [hf2 _ _ hz2, hf _ _ (by omega)]; simp [go_sem]
  clear hc hf hc2 hf2 hz0 hz1 hz2 hb hb2 hB
  go_wp2_with fail
  refine wp_loop_rounds 3 ?_
  rw [rounds_succ]
  go_wp2_with (go_at_call 51; refine (size_any _ _ (by omega) (by omega)).mono ?_; rintro e w' ⟨rfl, rfl⟩)
  refine wp_loop_rounds 3 ?_
  rw [rounds_succ]
  go_wp2_with (go_at_call 51; refine (size_any _ _ (by omega) (by omega)).mono ?_; rintro e w' ⟨rfl, rfl⟩)
  refine bodyPost_ret (v := R3 (0, 0, 4)) (by simp [results, Try.results38, go_sem, z0, z1, f0, f1, hy0, hy1, hy2]) rfl ⟨rfl, ?_⟩
  repeat (first | exact hB2 | refine Below.setCell ?_ (by simp; try omega) _ | refine Below.alloc ?_ (by simp; try omega) _)

set_option maxRecDepth 100000 in
set_option maxHeartbeats 4000000 in
theorem rmul_big2z (a b c d : Int) (w : World) (hv : vld a b = true) (hu : vld c d = true) (s1 : sml (a * c) = true) (s2 : sml (a * d) = false) (hc0 : c = 0) (hd0 : d ≠ 0) :
    Calls Try.prog 38 #[ivl a b, ivl c d] w fun e w' => e = .returned (R3 (0, 0, 4)) ∧ Below w.heap.size w w' := by
  obtain ⟨v1, v2, v3⟩ := vld_t hv
  obtain ⟨u1, u2, u3⟩ := vld_t hu
  obtain ⟨nyd, qad, qf⟩ := size_yes s2
  obtain ⟨r1d, r2d⟩ := quo_bd d qad
  have nc : (c != 0) = false := by simp [hc0]
  obtain ⟨p0a, p0b⟩ := sml_t s1
  clear hc0 hd0 s1 s2
  have hmin := @run_min2 Try.prog
  have hmax := @run_max2 Try.prog
  go_enter Try.func38, Try.ntmps38
  go_wp2_with fail
  refine (rvalid_any _ _ _).mono ?_
  rintro e w1 ⟨rfl, hb⟩
  obtain ⟨hc, hf⟩ := bcell hb
  have hz0 : w.heap.size < w1.heap.size := by have := hb.size; simp at this; omega
  have hz1 : w.heap.size + 1 < w1.heap.size := by have := hb.size; simp at this; omega
  have hz2 : w.heap.size + 1 + 1 < w1.heap.size := by have := hb.size; simp at this; omega
  simp only [World.size_alloc] at hc hf
  have hB := below3 hb
  go_wp2_with fail
  refine (rvalid_any _ _ _).mono ?_
  rintro e w2 ⟨rfl, hb2⟩
  have hy0 : w.heap.size < w2.heap.size := by have := hb2.size; omega
  have hy1 : w.heap.size + 1 < w2.heap.size := by have := hb2.size; omega
  have hy2 : w.heap.size + 1 + 1 < w2.heap.size := by have := hb2.size; omega
  have hB2 := hB.trans (hb2.mono (by omega))
  obtain ⟨hc2, hf2⟩ := bcell hb2
  have x0 : w2.cell? ⟨w.heap.size, 0, none⟩ = some (.int .i64 a) := by rw [hc2 _ _ hz0, hc _ _ (by omega)]; go_cell
  have x1 : w2.cell? ⟨w.heap.size, 1, none⟩ = some (.int .i64 b) := by rw [hc2 _ _ hz0, hc _ _ (by omega)]; go_cell
  have y0 : w2.cell? ⟨w.heap.size + 1, 0, none⟩ = some (.int .i64 c) := by rw [hc2 _ _ hz1, hc _ _ (by omega)]; go_cell
  have y1 : w2.cell? ⟨w.heap.size + 1, 1, none⟩ = some (.int .i64 d) := by rw [hc2 _ _ hz1, hc _ _ (by omega)]; go_cell
  have z0 : w2.cell? ⟨w.heap.size + 1 + 1, 0, none⟩ = some (.int .i64 0) := by rw [hc2 _ _ hz2, hc _ _ (by omega)]; go_cell
  have z1 : w2.cell? ⟨w.heap.size + 1 + 1, 1, none⟩ = some (.int .i64 0) := by rw [hc2 _ _ hz2, hc _ _ (by omega)]; go_cell
  have f0 : w2.frozen? ⟨w.heap.size + 1 + 1, 0, none⟩ = false := by rw [hf2 _ _ hz2, hf _ _ (by omega)]; simp [go_sem]
  have f1 : w2.frozen? ⟨w.heap.size + 1 + 1, 1, none⟩ = false := by rw [hf2 _ _ hz2, hf _ _ (by omega)]; simp [go_sem]
  clear hc hf hc2 hf2 hz0 hz1 hz2 hb hb2 hB
  go_wp2_with fail
  refine wp_loop_rounds 3 ?_
  rw [rounds_succ]
  go_wp2_with (go_at_call 51; refine (size_any _ _ (by omega) (by omega)).mono ?_; rintro e w' ⟨rfl, rfl⟩)
  refine wp_loop_rounds 3 ?_
  rw [rounds_succ]
  go_wp2_with (go_at_call 51; refine (size_any _ _ (by omega) (by omega)).mono ?_; rintro e w' ⟨rfl, rfl⟩)
  rw [rounds_succ]
  go_wp2_with (go_at_call 51; refine (size_any _ _ (by omega) (by omega)).mono ?_; rintro e w' ⟨rfl, rfl⟩)
  refine bodyPost_ret (v := R3 (0, 0, 4)) (by simp [results, Try.results38, go_sem, z0, z1, f0, f1, hy0, hy1, hy2]) rfl ⟨rfl, ?_⟩
  repeat (first | exact hB2 | refine Below.setCell ?_ (by simp; try omega) _ | refine Below.alloc ?_ (by simp; try omega) _)

set_option maxRecDepth 100000 in
set_option maxHeartbeats 4000000 in
theorem rmul_big2n (a b c d : Int) (w : World) (hv : vld a b = true) (hu : vld c d = true) (s1 : sml (a * c) = true) (s2 : sml (a * d) = false) (hc0 : c ≠ 0) (hd0 : d ≠ 0) :
    Calls Try.prog 38 #[ivl a b, ivl c d] w fun e w' => e = .returned (R3 (0, 0, 4)) ∧ Below w.heap.size w w' := by
  obtain ⟨v1, v2, v3⟩ := vld_t hv
  obtain ⟨u1, u2, u3⟩ := vld_t hu
  obtain ⟨nyd, qad, qf⟩ := size_yes s2
  obtain ⟨r1d, r2d⟩ := quo_bd d qad
  have nc : (c != 0) = true := by simp [hc0]
  obtain ⟨p0a, p0b⟩ := sml_t s1
  obtain ⟨q0a, q0b⟩ := size_no hc0 s1
  obtain ⟨r1c, r2c⟩ := quo_bd c q0a
  clear hc0 hd0 s1 s2
  have hmin := @run_min2 Try.prog
  have hmax := @run_max2 Try.prog
  go_enter Try.func38, Try.ntmps38
  go_wp2_with fail
  refine (rvalid_any _ _ _).mono ?_
  rintro e w1 ⟨rfl, hb⟩
  obtain ⟨hc, hf⟩ := bcell hb
  have hz0 : w.heap.size < w1.heap.size := by have := hb.size; simp at this; omega
  have hz1 : w.heap.size + 1 < w1.heap.size := by have := hb.size; simp at this; omega
  have hz2 : w.heap.size + 1 + 1 < w1.heap.size := by have := hb.size; simp at this; omega
  simp only [World.size_alloc] at hc hf
  have hB := below3 hb
  go_wp2_with fail
  refine (rvalid_any _ _ _).mono ?_
  rintro e w2 ⟨rfl, hb2⟩
  have hy0 : w.heap.size < w2.heap.size := by have := hb2.size; omega
  have hy1 : w.heap.size + 1 < w2.heap.size := by have := hb2.size; omega
  have hy2 : w.heap.size + 1 + 1 < w2.heap.size := by have := hb2.size; omega
  have hB2 := hB.trans (hb2.mono (by omega))
  obtain ⟨hc2, hf2⟩ := bcell hb2
  have x0 : w2.cell? ⟨w.heap.size, 0, none⟩ = some (.int .i64 a) := by rw [hc2 _ _ hz0, hc _ _ (by omega)]; go_cell
  have x1 : w2.cell? ⟨w.heap.size, 1, none⟩ = some (.int .i64 b) := by rw [hc2 _ _ hz0, hc _ _ (by omega)]; go_cell
  have y0 : w2.cell? ⟨w.heap.size + 1, 0, none⟩ = some (.int .i64 c) := by rw [hc2 _ _ hz1, hc _ _ (by omega)]; go_cell
  have y1 : w2.cell? ⟨w.heap.size + 1, 1, none⟩ = some (.int .i64 d) := by rw [hc2 _ _ hz1, hc _ _ (by omega)]; go_cell
  have z0 : w2.cell? ⟨w.heap.size + 1 + 1, 0, none⟩ = some (.int .i64 0) := by rw [hc2 _ _ hz2, hc _ _ (by omega)]; go_cell
  have z1 : w2.cell? ⟨w.heap.size + 1 + 1, 1, none⟩ = some (.int .i64 0) := by rw [hc2 _ _ hz2, hc _ _ (by omega)]; go_cell
  have f0 : w2.frozen? ⟨w.heap.size + 1 + 1, 0, none⟩ = false := by rw [hf2 _ _ hz2, hf _ _ (by omega)]; simp [go_sem]
  have f1 : w2.frozen? ⟨w.heap.size + 1 + 1, 1, none⟩ = false := by rw [hf2 _ _ hz2, hf _ _ (by omega)]; simp [go_sem]
  clear hc hf hc2 hf2 hz0 hz1 hz2 hb hb2 hB
  go_wp2_with fail
  refine wp_loop_rounds 3 ?_
  rw [rounds_succ]
  go_wp2_with (go_at_call 51; refine (size_any _ _ (by omega) (by omega)).mono ?_; rintro e w' ⟨rfl, rfl⟩)
  refine wp_loop_rounds 3 ?_
  rw [rounds_succ]
  go_wp2_with (go_at_call 51; refine (size_any _ _ (by omega) (by omega)).mono ?_; rintro e w' ⟨rfl, rfl⟩)
  rw [rounds_succ]
  go_wp2_with (go_at_call 51; refine (size_any _ _ (by omega) (by omega)).mono ?_; rintro e w' ⟨rfl, rfl⟩)
  refine bodyPost_ret (v := R3 (0, 0, 4)) (by simp [results, Try.results38, go_sem, z0, z1, f0, f1, hy0, hy1, hy2]) rfl ⟨rfl, ?_⟩
  repeat (first | exact hB2 | refine Below.setCell ?_ (by simp; try omega) _ | refine Below.alloc ?_ (by simp; try omega) _)

set_option maxRecDepth 100000 in
set_option maxHeartbeats 4000000 in
theorem rmul_big3z (a b c d : Int) (w : World) (hv : vld a b = true) (hu : vld c d = true) (s1 : sml (a * c) = true) (s2 : sml (a * d) = true) (s3 : sml (b * c) = false) (hc0 : c ≠ 0) (hd0 : d = 0) :
    Calls Try.prog 38 #[ivl a b, ivl c d] w fun e w' => e = .returned (R3 (0, 0, 4)) ∧ Below w.heap.size w w' := by
  obtain ⟨v1, v2, v3⟩ := vld_t hv
  obtain ⟨u1, u2, u3⟩ := vld_t hu
  obtain ⟨nyc, qac, qf⟩ := size_yes s3
  obtain ⟨r1c, r2c⟩ := quo_bd c qac
  have nd : (d != 0) = false := by simp [hd0]
  obtain ⟨p0a, p0b⟩ := sml_t s1
  obtain ⟨q0a, q0b⟩ := size_no hc0 s1
  obtain ⟨p1a, p1b⟩ := sml_t s2
  clear hc0 hd0 s1 s2 s3
  have hmin := @run_min2 Try.prog
  have hmax := @run_max2 Try.prog
  go_enter Try.func38, Try.ntmps38
  go_wp2_with fail
  refine (rvalid_any _ _ _).mono ?_
  rintro e w1 ⟨rfl, hb⟩
  obtain ⟨hc, hf⟩ := bcell hb
  have hz0 : w.heap.size < w1.heap.size := by have := hb.size; simp at this; omega
  have hz1 : w.heap.size + 1 < w1.heap.size := by have := hb.size; simp at this; omega
  have hz2 : w.heap.size + 1 + 1 < w1.heap.size := by have := hb.size; simp at this; omega
  simp only [World.size_alloc] at hc hf
  have hB := below3 hb
  go_wp2_with fail
  refine (rvalid_any _ _ _).mono ?_
  rintro e w2 ⟨rfl, hb2⟩
  have hy0 : w.heap.size < w2.heap.size := by have := hb2.size; omega
  have hy1 : w.heap.size + 1 < w2.heap.size := by have := hb2.size; omega
  have hy2 : w.heap.size + 1 + 1 < w2.heap.size := by have := hb2.size; omega
  have hB2 := hB.trans (hb2.mono (by omega))
  obtain ⟨hc2, hf2⟩ := bcell hb2
  have x0 : w2.cell? ⟨w.heap.size, 0, none⟩ = some (.int .i64 a) := by rw [hc2 _ _ hz0, hc _ _ (by omega)]; go_cell
  have x1 : w2.cell? ⟨w.heap.size, 1, none⟩ = some (.int .i64 b) := by rw [hc2 _ _ hz0, hc _ _ (by omega)]; go_cell
  have y0 : w2.cell? ⟨w.heap.size + 1, 0, none⟩ = some (.int .i64 c) := by rw [hc2 _ _ hz1, hc _ _ (by omega)]; go_cell
  have y1 : w2.cell? ⟨w.heap.size + 1, 1, none⟩ = some (.int .i64 d) := by rw [hc2 _ _ hz1, hc _ _ (by omega)]; go_cell
  have z0 : w2.cell? ⟨w.heap.size + 1 + 1, 0, none⟩ = some (.int .i64 0) := by rw [hc2 _ _ hz2, hc _ _ (by omega)]; go_cell
  have z1 : w2.cell? ⟨w.heap.size + 1 + 1, 1, none⟩ = some (.int .i64 0) := by rw [hc2 _ _ hz2, hc _ _ (by omega)]; go_cell
  have f0 : w2.frozen? ⟨w.heap.size + 1 + 1, 0, none⟩ = false := by rw [hf2 _ _ hz2, hf _ _ (by omega)]; simp [go_sem]
  have f1 : w2.frozen? ⟨w.heap.size + 1 + 1, 1, none⟩ = false := by rw [hf2 _ _ hz2, hf _ _ (by omega)]; simp [go_sem]
  clear hc hf hc2 hf2 hz0 hz1 hz2 hb hb2 hB
  go_wp2_with fail
  refine wp_loop_rounds 3 ?_
  rw [rounds_succ]
  go_wp2_with (go_at_call 51; refine (size_any _ _ (by omega) (by omega)).mono ?_; rintro e w' ⟨rfl, rfl⟩)
  refine wp_loop_rounds 3 ?_
  rw [rounds_succ]
  go_wp2_with (go_at_call 51; refine (size_any _ _ (by omega) (by omega)).mono ?_; rintro e w' ⟨rfl, rfl⟩)
  rw [rounds_succ]
  go_wp2_with (go_at_call 51; refine (size_any _ _ (by omega) (by omega)).mono ?_; rintro e w' ⟨rfl, rfl⟩)
  rw [rounds_succ]
  go_wp2_with (go_at_call 51; refine (size_any _ _ (by omega) (by omega)).mono ?_; rintro e w' ⟨rfl, rfl⟩)
  rw [rounds_succ]
  go_wp2_with (go_at_call 51; refine (size_any _ _ (by omega) (by omega)).mono ?_; rintro e w' ⟨rfl, rfl⟩)
  refine wp_loop_rounds 3 ?_
  rw [rounds_succ]
  go_wp2_with (go_at_call 51; refine (size_any _ _ (by omega) (by omega)).mono ?_; rintro e w' ⟨rfl, rfl⟩)
  refine bodyPost_ret (v := R3 (0, 0, 4)) (by simp [results, Try.results38, go_sem, z0, z1, f0, f1, hy0, hy1, hy2]) rfl ⟨rfl, ?_⟩
  repeat (first | exact hB2 | refine Below.setCell ?_ (by simp; try omega) _ | refine Below.alloc ?_ (by simp; try omega) _)

set_option maxRecDepth 100000 in
set_option maxHeartbeats 4000000 in
theorem rmul_big3n (a b c d : Int) (w : World) (hv : vld a b = true) (hu : vld c d = true) (s1 : sml (a * c) = true) (s2 : sml (a * d) = true) (s3 : sml (b * c) = false) (hc0 : c ≠ 0) (hd0 : d ≠ 0) :
    Calls Try.prog 38 #[ivl a b, ivl c d] w fun e w' => e = .returned (R3 (0, 0, 4)) ∧ Below w.heap.size w w' := by
  obtain ⟨v1, v2, v3⟩ := vld_t hv
  obtain ⟨u1, u2, u3⟩ := vld_t hu
  obtain ⟨nyc, qac, qf⟩ := size_yes s3
  obtain ⟨r1c, r2c⟩ := quo_bd c qac
  have nd : (d != 0) = true := by simp [hd0]
  obtain ⟨p0a, p0b⟩ := sml_t s1
  obtain ⟨q0a, q0b⟩ := size_no hc0 s1
  obtain ⟨p1a, p1b⟩ := sml_t s2
  obtain ⟨q1a, q1b⟩ := size_no hd0 s2
  obtain ⟨r1d, r2d⟩ := quo_bd d q1a
  clear hc0 hd0 s1 s2 s3
  have hmin := @run_min2 Try.prog
  have hmax := @run_max2 Try.prog
  go_enter Try.func38, Try.ntmps38
  go_wp2_with fail
  refine (rvalid_any _ _ _).mono ?_
  rintro e w1 ⟨rfl, hb⟩
  obtain ⟨hc, hf⟩ := bcell hb
  have hz0 : w.heap.size < w1.heap.size := by have := hb.size; simp at this; omega
  have hz1 : w.heap.size + 1 < w1.heap.size := by have := hb.size; simp at this; omega
  have hz2 : w.heap.size + 1 + 1 < w1.heap.size := by have := hb.size; simp at this; omega
  simp only [World.size_alloc] at hc hf
  have hB := below3 hb
  go_wp2_with fail
  refine (rvalid_any _ _ _).mono ?_
  rintro e w2 ⟨rfl, hb2⟩
  have hy0 : w.heap.size < w2.heap.size := by have := hb2.size; omega
  have hy1 : w.heap.size + 1 < w2.heap.size := by have := hb2.size; omega
  have hy2 : w.heap.size + 1 + 1 < w2.heap.size := by have := hb2.size; omega
  have hB2 := hB.trans (hb2.mono (by omega))
  obtain ⟨hc2, hf2⟩ := bcell hb2
  have x0 : w2.cell? ⟨w.heap.size, 0, none⟩ = some (.int .i64 a) := by rw [hc2 _ _ hz0, hc _ _ (by omega)]; go_cell
  have x1 : w2.cell? ⟨w.heap.size, 1, none⟩ = some (.int .i64 b) := by rw [hc2 _ _ hz0, hc _ _ (by omega)]; go_cell
  have y0 : w2.cell? ⟨w.heap.size + 1, 0, none⟩ = some (.int .i64 c) := by rw [hc2 _ _ hz1, hc _ _ (by omega)]; go_cell
  have y1 : w2.cell? ⟨w.heap.size + 1, 1, none⟩ = some (.int .i64 d) := by rw [hc2 _ _ hz1, hc _ _ (by omega)]; go_cell
  have z0 : w2.cell? ⟨w.heap.size + 1 + 1, 0, none⟩ = some (.int .i64 0) := by rw [hc2 _ _ hz2, hc _ _ (by omega)]; go_cell
  have z1 : w2.cell? ⟨w.heap.size + 1 + 1, 1, none⟩ = some (.int .i64 0) := by rw [hc2 _ _ hz2, hc _ _ (by omega)]; go_cell
  have f0 : w2.frozen? ⟨w.heap.size + 1 + 1, 0, none⟩ = false := by rw [hf2 _ _ hz2, hf _ _ (by omega)]; simp [go_sem]
  have f1 : w2.frozen? ⟨w.heap.size + 1 + 1, 1, none⟩ = false := by rw [hf2 _ _ hz2, hf _ _ (by omega)]; simp [go_sem]
  clear hc hf hc2 hf2 hz0 hz1 hz2 hb hb2 hB
  go_wp2_with fail
  refine wp_loop_rounds 3 ?_
  rw [rounds_succ]
  go_wp2_with (go_at_call 51; refine (size_any _ _ (by omega) (by omega)).mono ?_; rintro e w' ⟨rfl, rfl⟩)
  refine wp_loop_rounds 3 ?_
  rw [rounds_succ]
  go_wp2_with (go_at_call 51; refine (size_any _ _ (by omega) (by omega)).mono ?_; rintro e w' ⟨rfl, rfl⟩)
  rw [rounds_succ]
  go_wp2_with (go_at_call 51; refine (size_any _ _ (by omega) (by omega)).mono ?_; rintro e w' ⟨rfl, rfl⟩)
  rw [rounds_succ]
  go_wp2_with (go_at_call 51; refine (size_any _ _ (by omega) (by omega)).mono ?_; rintro e w' ⟨rfl, rfl⟩)
  rw [rounds_succ]
  go_wp2_with (go_at_call 51; refine (size_any _ _ (by omega) (by omega)).mono ?_; rintro e w' ⟨rfl, rfl⟩)
  refine wp_loop_rounds 3 ?_
  rw [rounds_succ]
  go_wp2_with (go_at_call 51; refine (size_any _ _ (by omega) (by omega)).mono ?_; rintro e w' ⟨rfl, rfl⟩)
  refine bodyPost_ret (v := R3 (0, 0, 4)) (by simp [results, Try.results38, go_sem, z0, z1, f0, f1, hy0, hy1, hy2]) rfl ⟨rfl, ?_⟩
  repeat (first | exact hB2 | refine Below.setCell ?_ (by simp; try omega) _ | refine Below.alloc ?_ (by simp; try omega) _)

set_option maxRecDepth 100000 in
set_option maxHeartbeats 4000000 in
theorem rmul_big4z (a b c d : Int) (w : World) (hv : vld a b = true) (hu : vld c d = true) (s1 : sml (a * c) = true) (s2 : sml (a * d) = true) (s3 : sml (b * c) = true) (s4 : sml (b * d) = false) (hc0 : c = 0) (hd0 : d ≠ 0) :
    Calls Try.prog 38 #[ivl a b, ivl c d] w fun e w' => e = .returned (R3 (0, 0, 4)) ∧ Below w.heap.size w w' := by
  obtain ⟨v1, v2, v3⟩ := vld_t hv
  obtain ⟨u1, u2, u3⟩ := vld_t hu
  obtain ⟨nyd, qad, qf⟩ := size_yes s4
  obtain ⟨r1d, r2d⟩ := quo_bd d qad
  have nc : (c != 0) = false := by simp [hc0]
  obtain ⟨p0a, p0b⟩ := sml_t s1
  obtain ⟨p1a, p1b⟩ := sml_t s2
  obtain ⟨q1a, q1b⟩ := size_no hd0 s2
  obtain ⟨p2a, p2b⟩ := sml_t s3
  clear hc0 hd0 s1 s2 s3 s4
  have hmin := @run_min2 Try.prog
  have hmax := @run_max2 Try.prog
  go_enter Try.func38, Try.ntmps38
  go_wp2_with fail
  refine (rvalid_any _ _ _).mono ?_
  rintro e w1 ⟨rfl, hb⟩
  obtain ⟨hc, hf⟩ := bcell hb
  have hz0 : w.heap.size < w1.heap.size := by have := hb.size; simp at this; omega
  have hz1 : w.heap.size + 1 < w1.heap.size := by have := hb.size; simp at this; omega
  have hz2 : w.heap.size + 1 + 1 < w1.heap.size := by have := hb.size; simp at this; omega
  simp only [World.size_alloc] at hc hf
  have hB := below3 hb
  go_wp2_with fail
  refine (rvalid_any _ _ _).mono ?_
  rintro e w2 ⟨rfl, hb2⟩
  have hy0 : w.heap.size < w2.heap.size := by have := hb2.size; omega
  have hy1 : w.heap.size + 1 < w2.heap.size := by have := hb2.size; omega
  have hy2 : w.heap.size + 1 + 1 < w2.heap.size := by have := hb2.size; omega
  have hB2 := hB.trans (hb2.mono (by omega))
  obtain ⟨hc2, hf2⟩ := bcell hb2
  have x0 : w2.cell? ⟨w.heap.size, 0, none⟩ = some (.int .i64 a) := by rw [hc2 _ _ hz0, hc _ _ (by omega)]; go_cell
  have x1 : w2.cell? ⟨w.heap.size, 1, none⟩ = some (.int .i64 b) := by rw [hc2 _ _ hz0, hc _ _ (by omega)]; go_cell
  have y0 : w2.cell? ⟨w.heap.size + 1, 0, none⟩ = some (.int .i64 c) := by rw [hc2 _ _ hz1, hc _ _ (by omega)]; go_cell
  have y1 : w2.cell? ⟨w.heap.size + 1, 1, none⟩ = some (.int .i64 d) := by rw [hc2 _ _ hz1, hc _ _ (by omega)]; go_cell
  have z0 : w2.cell? ⟨w.heap.size + 1 + 1, 0, none⟩ = some (.int .i64 0) := by rw [hc2 _ _ hz2, hc _ _ (by omega)]; go_cell
  have z1 : w2.cell? ⟨w.heap.size + 1 + 1, 1, none⟩ = some (.int .i64 0) := by rw [hc2 _ _ hz2, hc _ _ (by omega)]; go_cell
  have f0 : w2.frozen? ⟨w.heap.size + 1 + 1, 0, none⟩ = false := by rw [hf2 _ _ hz2, hf _ _ (by omega)]; simp [go_sem]
  have f1 : w2.frozen? ⟨w.heap.size + 1 + 1, 1, none⟩ = false := by rw [hf2 _ _ hz2, hf _ _ (by omega)]; simp [go_sem]
  clear hc hf hc2 hf2 hz0 hz1 hz2 hb hb2 hB
  go_wp2_with fail
  refine wp_loop_rounds 3 ?_
  rw [rounds_succ]
  go_wp2_with (go_at_call 51; refine (size_any _ _ (by omega) (by omega)).mono ?_; rintro e w' ⟨rfl, rfl⟩)
  refine wp_loop_rounds 3 ?_
  rw [rounds_succ]
  go_wp2_with (go_at_call 51; refine (size_any _ _ (by omega) (by omega)).mono ?_; rintro e w' ⟨rfl, rfl⟩)
  rw [rounds_succ]
  go_wp2_with (go_at_call 51; refine (size_any _ _ (by omega) (by omega)).mono ?_; rintro e w' ⟨rfl, rfl⟩)
  rw [rounds_succ]
  go_wp2_with (go_at_call 51; refine (size_any _ _ (by omega) (by omega)).mono ?_; rintro e w' ⟨rfl, rfl⟩)
  rw [rounds_succ]
  go_wp2_with (go_at_call 51; refine (size_any _ _ (by omega) (by omega)).mono ?_; rintro e w' ⟨rfl, rfl⟩)
  refine wp_loop_rounds 3 ?_
  rw [rounds_succ]
  go_wp2_with (go_at_call 51; refine (size_any _ _ (by omega) (by omega)).mono ?_; rintro e w' ⟨rfl, rfl⟩)
  rw [rounds_succ]
  go_wp2_with (go_at_call 51; refine (size_any _ _ (by omega) (by omega)).mono ?_; rintro e w' ⟨rfl, rfl⟩)
  refine bodyPost_ret (v := R3 (0, 0, 4)) (by simp [results, Try.results38, go_sem, z0, z1, f0, f1, hy0, hy1, hy2]) rfl ⟨rfl, ?_⟩
  repeat (first | exact hB2 | refine Below.setCell ?_ (by simp; try omega) _ | refine Below.alloc ?_ (by simp; try omega) _)

set_option maxRecDepth 100000 in
set_option maxHeartbeats 4000000 in
theorem rmul_big4n (a b c d : Int) (w : World) (hv : vld a b = true) (hu : vld c d = true) (s1 : sml (a * c) = true) (s2 : sml (a * d) = true) (s3 : sml (b * c) = true) (s4 : sml (b * d) = false) (hc0 : c ≠ 0) (hd0 : d ≠ 0) :
    Calls Try.prog 38 #[ivl a b, ivl c d] w fun e w' => e = .returned (R3 (0, 0, 4)) ∧ Below w.heap.size w w' := by
  obtain ⟨v1, v2, v3⟩ := vld_t hv
  obtain ⟨u1, u2, u3⟩ := vld_t hu
  obtain ⟨nyd, qad, qf⟩ := size_yes s4
  obtain ⟨r1d, r2d⟩ := quo_bd d qad
  have nc : (c != 0) = true := by simp [hc0]
  obtain ⟨p0a, p0b⟩ := sml_t s1
  obtain ⟨q0a, q0b⟩ := size_no hc0 s1
  obtain ⟨r1c, r2c⟩ := quo_bd c q0a
  obtain ⟨p1a, p1b⟩ := sml_t s2
  obtain ⟨q1a, q1b⟩ := size_no hd0 s2
  obtain ⟨p2a, p2b⟩ := sml_t s3
  obtain ⟨q2a, q2b⟩ := size_no hc0 s3
  clear hc0 hd0 s1 s2 s3 s4
  have hmin := @run_min2 Try.prog
  have hmax := @run_max2 Try.prog
  go_enter Try.func38, Try.ntmps38
  go_wp2_with fail
  refine (rvalid_any _ _ _).mono ?_
  rintro e w1 ⟨rfl, hb⟩
  obtain ⟨hc, hf⟩ := bcell hb
  have hz0 : w.heap.size < w1.heap.size := by have := hb.size; simp at this; omega
  have hz1 : w.heap.size + 1 < w1.heap.size := by have := hb.size; simp at this; omega
  have hz2 : w.heap.size + 1 + 1 < w1.heap.size := by have := hb.size; simp at this; omega
  simp only [World.size_alloc] at hc hf
  have hB := below3 hb
  go_wp2_with fail
  refine (rvalid_any _ _ _).mono ?_
  rintro e w2 ⟨rfl, hb2⟩
  have hy0 : w.heap.size < w2.heap.size := by have := hb2.size; omega
  have hy1 : w.heap.size + 1 < w2.heap.size := by have := hb2.size; omega
  have hy2 : w.heap.size + 1 + 1 < w2.heap.size := by have := hb2.size; omega
  have hB2 := hB.trans (hb2.mono (by omega))
  obtain ⟨hc2, hf2⟩ := bcell hb2
  have x0 : w2.cell? ⟨w.heap.size, 0, none⟩ = some (.int .i64 a) := by rw [hc2 _ _ hz0, hc _ _ (by omega)]; go_cell
  have x1 : w2.cell? ⟨w.heap.size, 1, none⟩ = some (.int .i64 b) := by rw [hc2 _ _ hz0, hc _ _ (by omega)]; go_cell
  have y0 : w2.cell? ⟨w.heap.size + 1, 0, none⟩ = some (.int .i64 c) := by rw [hc2 _ _ hz1, hc _ _ (by omega)]; go_cell
  have y1 : w2.cell? ⟨w.heap.size + 1, 1, none⟩ = some (.int .i64 d) := by rw [hc2 _ _ hz1, hc _ _ (by omega)]; go_cell
  have z0 : w2.cell? ⟨w.heap.size + 1 + 1, 0, none⟩ = some (.int .i64 0) := by rw [hc2 _ _ hz2, hc _ _ (by omega)]; go_cell
  have z1 : w2.cell? ⟨w.heap.size + 1 + 1, 1, none⟩ = some (.int .i64 0) := by rw [hc2 _ _ hz2, hc _ _ (by omega)]; go_cell
  have f0 : w2.frozen? ⟨w.heap.size + 1 + 1, 0, none⟩ = false := by rw [hf2 _ _ hz2, hf _ _ (by omega)]; simp [go_sem]
  have f1 : w2.frozen? ⟨w.heap.size + 1 + 1, 1, none⟩ = false := by rw [hf2 _ _ hz2, hf _ _ (by omega)]; simp [go_sem]
  clear hc hf hc2 hf2 hz0 hz1 hz2 hb hb2 hB
  go_wp2_with fail
  refine wp_loop_rounds 3 ?_
  rw [rounds_succ]
  go_wp2_with (go_at_call 51; refine (size_any _ _ (by omega) (by omega)).mono ?_; rintro e w' ⟨rfl, rfl⟩)
  refine wp_loop_rounds 3 ?_
  rw [rounds_succ]
  go_wp2_with (go_at_call 51; refine (size_any _ _ (by omega) (by omega)).mono ?_; rintro e w' ⟨rfl, rfl⟩)
  rw [rounds_succ]
  go_wp2_with (go_at_call 51; refine (size_any _ _ (by omega) (by omega)).mono ?_; rintro e w' ⟨rfl, rfl⟩)
  rw [rounds_succ]
  go_wp2_with (go_at_call 51; refine (size_any _ _ (by omega) (by omega)).mono ?_; rintro e w' ⟨rfl, rfl⟩)
  rw [rounds_succ]
  go_wp2_with (go_at_call 51; refine (size_any _ _ (by omega) (by omega)).mono ?_; rintro e w' ⟨rfl, rfl⟩)
  refine wp_loop_rounds 3 ?_
  rw [rounds_succ]
  go_wp2_with (go_at_call 51; refine (size_any _ _ (by omega) (by omega)).mono ?_; rintro e w' ⟨rfl, rfl⟩)
  rw [rounds_succ]
  go_wp2_with (go_at_call 51; refine (size_any _ _ (by omega) (by omega)).mono ?_; rintro e w' ⟨rfl, rfl⟩)
  refine bodyPost_ret (v := R3 (0, 0, 4)) (by simp [results, Try.results38, go_sem, z0, z1, f0, f1, hy0, hy1, hy2]) rfl ⟨rfl, ?_⟩
  repeat (first | exact hB2 | refine Below.setCell ?_ (by simp; try omega) _ | refine Below.alloc ?_ (by simp; try omega) _)

set_option maxHeartbeats 400000 in
theorem rmul_bad (a b c d : Int) (w : World) (h : vld a b = false ∨ vld c d = false) :
    Calls Try.prog 38 #[ivl a b, ivl c d] w fun e w' => e = .returned (R3 (0, 0, 1)) ∧ Below w.heap.size w w' := by
  cases hv : vld a b
  · clear h
    go_enter Try.func38, Try.ntmps38
    go_wp2_with fail
    refine (rvalid_any _ _ _).mono ?_
    rintro e w1 ⟨rfl, hb⟩
    obtain ⟨hc, hf⟩ := bcell hb
    have hz2 : w.heap.size + 1 + 1 < w1.heap.size := by have := hb.size; simp at this; omega
    simp only [World.size_alloc] at hc hf
    have hB := below3 hb
    go_wp2_with fail
    exact bodyPost_ret (v := R3 (0, 0, 1)) (by simp [results, Try.results38, go_sem, hc, hf, hz2]) rfl ⟨rfl, by go_grown⟩
  · have hu : vld c d = false := by rcases h with h | h; (rw [hv] at h; cases h); exact h
    clear h
    go_enter Try.func38, Try.ntmps38
    go_wp2_with fail
    refine (rvalid_any _ _ _).mono ?_
    rintro e w1 ⟨rfl, hb⟩
    obtain ⟨hc, hf⟩ := bcell hb
    have hz0 : w.heap.size < w1.heap.size := by have := hb.size; simp at this; omega
    have hz1 : w.heap.size + 1 < w1.heap.size := by have := hb.size; simp at this; omega
    have hz2 : w.heap.size + 1 + 1 < w1.heap.size := by have := hb.size; simp at this; omega
    simp only [World.size_alloc] at hc hf
    have hB := below3 hb
    go_wp2_with fail
    refine (rvalid_any _ _ _).mono ?_
    rintro e w2 ⟨rfl, hb2⟩
    obtain ⟨hc2, hf2⟩ := bcell hb2
    have hy2 : w.heap.size + 1 + 1 < w2.heap.size := by have := hb2.size; omega
    have hB2 := hB.trans (hb2.mono (by omega))
    go_wp2_with fail
    exact bodyPost_ret (v := R3 (0, 0, 1)) (by simp [results, Try.results38, go_sem, hc, hf, hz2, hc2, hf2, hy2]) rfl ⟨rfl, by go_grown⟩

theorem min_all (x y z u : Int) (h1 : x ≤ 1000000000000) : min2 (min2 (min2 (min2 1000000000000 x) y) z) u = min4 x y z u := by unfold min2 min4; omega
theorem max_all (x y z u : Int) (h1 : -1000000000000 ≤ x) : max2 (max2 (max2 (max2 (-1000000000000) x) y) z) u = max4 x y z u := by unfold max2 max4; omega

theorem rmul_any (a b c d : Int) (w : World) :
    Calls Try.prog 38 #[ivl a b, ivl c d] w fun e w' => e = .returned (R3 (mulR a b c d)) ∧ Below w.heap.size w w' := by
  unfold mulR
  cases hv : vld a b
  · rw [if_neg (by simp)]; exact rmul_bad a b c d w (Or.inl hv)
  cases hu : vld c d
  · rw [if_neg (by simp)]; exact rmul_bad a b c d w (Or.inr hu)
  rw [if_pos ⟨rfl, rfl⟩]
  have nz : ∀ x y : Int, sml (x * y) = false → y ≠ 0 := fun x y h e => by subst e; rw [Int.mul_zero] at h; cases h
  cases s1 : sml (a * c)
  · rw [if_neg (by simp [sml4, s1])]; exact rmul_big1 a b c d w hv hu s1 (nz _ _ s1)
  cases s2 : sml (a * d)
  · rw [if_neg (by simp [sml4, s2])]
    by_cases c0 : c = 0
    · exact rmul_big2z a b c d w hv hu s1 s2 c0 (nz _ _ s2)
    · exact rmul_big2n a b c d w hv hu s1 s2 c0 (nz _ _ s2)
  cases s3 : sml (b * c)
  · rw [if_neg (by simp [sml4, s3])]
    by_cases d0 : d = 0
    · exact rmul_big3z a b c d w hv hu s1 s2 s3 (nz _ _ s3) d0
    · exact rmul_big3n a b c d w hv hu s1 s2 s3 (nz _ _ s3) d0
  cases s4 : sml (b * d)
  · rw [if_neg (by simp [sml4, s4])]
    by_cases c0 : c = 0
    · exact rmul_big4z a b c d w hv hu s1 s2 s3 s4 c0 (nz _ _ s4)
    · exact rmul_big4n a b c d w hv hu s1 s2 s3 s4 c0 (nz _ _ s4)
  rw [if_pos (by simp [sml4, s1, s2, s3, s4])]
  have hp := sml_t s1
  rw [← min_all _ _ _ _ hp.2, ← max_all _ _ _ _ hp.1]
  by_cases c0 : c = 0 <;> by_cases d0 : d = 0
  · exact rmul_ok00 a b c d w hv hu s1 s2 s3 s4 c0 d0
  · exact rmul_ok01 a b c d w hv hu s1 s2 s3 s4 c0 d0
  · exact rmul_ok10 a b c d w hv hu s1 s2 s3 s4 c0 d0
  · exact rmul_ok11 a b c d w hv hu s1 s2 s3 s4 c0 d0

end Go.Proofs.Ytfpjpilhblhhgaa
