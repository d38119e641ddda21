/-
  The contract of Mul.
-/
import Derived.Test.YtfpjpilhblhhgaaMul
set_option linter.unusedSimpArgs false
set_option linter.unusedVariables false
namespace Go.Proofs.Ytfpjpilhblhhgaa
open Go.RowKit

/-- The least and the greatest of four. -/
def min4 (x y z u : Int) : Int := if u < (if z < (if y < x then y else x) then z else (if y < x then y else x)) then u else (if z < (if y < x then y else x) then z else (if y < x then y else x))
def max4 (x y z u : Int) : Int := if (if (if x < y then y else x) < z then z else (if x < y then y else x)) < u then u else (if (if x < y then y else x) < z then z else (if x < y then y else x))
theorem min4_eq (x y z u : Int) : min4 x y z u ≤ x ∧ min4 x y z u ≤ y ∧ min4 x y z u ≤ z ∧ min4 x y z u ≤ u ∧ (min4 x y z u = x ∨ min4 x y z u = y ∨ min4 x y z u = z ∨ min4 x y z u = u) := by unfold min4; omega
theorem max4_eq (x y z u : Int) : x ≤ max4 x y z u ∧ y ≤ max4 x y z u ∧ z ≤ max4 x y z u ∧ u ≤ max4 x y z u ∧ (max4 x y z u = x ∨ max4 x y z u = y ∨ max4 x y z u = z ∨ max4 x y z u = u) := by unfold max4; omega
theorem run_min4 (P : Program) (w : World) (ts : Array TypeId) (t : TypeId) (x y z u : Int) : (Builtin.min_ ts t #[.int .i64 x, .int .i64 y, .int .i64 z, .int .i64 u]).run P w = .ok (.int .i64 (min4 x y z u)) w := by
  simp [Builtin.min_, Builtin.min2, min4]
theorem run_max4 (P : Program) (w : World) (ts : Array TypeId) (t : TypeId) (x y z u : Int) : (Builtin.max_ ts t #[.int .i64 x, .int .i64 y, .int .i64 z, .int .i64 u]).run P w = .ok (.int .i64 (max4 x y z u)) w := by
  simp [Builtin.max_, Builtin.max2, max4]

def sml4 (a b c d : Int) : Bool := sml (a * c) && sml (a * d) && sml (b * c) && sml (b * d)
def mulR (a b c d : Int) : Int × Int × Int :=
  if vld a b = true ∧ vld c d = true then
    (if sml4 a b c d = true then (min4 (a * c) (a * d) (b * c) (b * d), max4 (a * c) (a * d) (b * c) (b * d), 0) else (0, 0, 4))
  else (0, 0, 1)

set_option maxHeartbeats 400000 in
theorem mul_bad1 (a b c d : Int) (w : World) (hv : vld a b = false) :
    Calls Try.prog 23 #[ivl a b, ivl c d] w fun e w' => e = .returned (R3 (0, 0, 1)) ∧ Below w.heap.size w w' := by
  go_enter Try.func23, Try.ntmps23
  go_wp2_with fail
  refine (valid_any _ _ _).mono ?_
  rintro e w1 ⟨rfl, hb⟩
  obtain ⟨hc, hf⟩ := bcell hb
  have hz : w.heap.size + 2 < w1.heap.size := by have := hb.size; simp at this; omega
  simp only [World.size_alloc] at hc hf
  go_wp2_with fail
  have hB := below3 hb
  exact bodyPost_ret (v := R3 (0, 0, 1)) (by simp [results, Try.results23, go_sem, hc, hf, hz]) rfl ⟨rfl, by go_grown⟩

set_option maxHeartbeats 400000 in
theorem mul_bad2 (a b c d : Int) (w : World) (hv : vld a b = true) (hu : vld c d = false) :
    Calls Try.prog 23 #[ivl a b, ivl c d] w fun e w' => e = .returned (R3 (0, 0, 1)) ∧ Below w.heap.size w w' := by
  go_enter Try.func23, Try.ntmps23
  go_wp2_with fail
  refine (valid_any _ _ _).mono ?_
  rintro e w1 ⟨rfl, hb⟩
  obtain ⟨hc, hf⟩ := bcell hb
  have hz : w.heap.size + 2 < w1.heap.size := by have := hb.size; simp at this; omega
  simp only [World.size_alloc] at hc hf
  have hz0 : w.heap.size < w1.heap.size := by omega
  have hz1 : w.heap.size + 1 < w1.heap.size := by omega
  go_wp2_with fail
  refine (valid_any _ _ _).mono ?_
  rintro e w2 ⟨rfl, hb2⟩
  obtain ⟨hc2, hf2⟩ := bcell hb2
  have hz2 : w.heap.size + 2 < w2.heap.size := by have := hb2.size; omega
  go_wp2_with fail
  have hB := (below3 hb).trans (hb2.mono (by omega))
  exact bodyPost_ret (v := R3 (0, 0, 1)) (by simp [results, Try.results23, go_sem, hc, hf, hz, hc2, hf2, hz2]) rfl ⟨rfl, by go_grown⟩

set_option maxHeartbeats 400000 in
theorem mul_ok (a b c d : Int) (w : World) (hv : vld a b = true) (hu : vld c d = true) (s1 : sml (a * c) = true) (s2 : sml (a * d) = true) (s3 : sml (b * c) = true) (s4 : sml (b * d) = true) :
    Calls Try.prog 23 #[ivl a b, ivl c d] w fun e w' => e = .returned (R3 (min4 (prd a c) (prd a d) (prd b c) (prd b d), max4 (prd a c) (prd a d) (prd b c) (prd b d), 0)) ∧ Below w.heap.size w w' := by
  have hmin := @run_min4 Try.prog
  have hmax := @run_max4 Try.prog
  obtain ⟨v1, v2, v3⟩ := vld_t hv
  obtain ⟨u1, u2, u3⟩ := vld_t hu
  go_enter Try.func23, Try.ntmps23
  go_wp2_with fail
  refine (valid_any _ _ _).mono ?_
  rintro e w1 ⟨rfl, hb⟩
  obtain ⟨hc, hf⟩ := bcell hb
  have hz : w.heap.size + 2 < w1.heap.size := by have := hb.size; simp at this; omega
  simp only [World.size_alloc] at hc hf
  have hz0 : w.heap.size < w1.heap.size := by omega
  have hz1 : w.heap.size + 1 < w1.heap.size := by omega
  go_wp2_with fail
  refine (valid_any _ _ _).mono ?_
  rintro e w2 ⟨rfl, hb2⟩
  obtain ⟨hc2, hf2⟩ := bcell hb2
  have hz2 : w.heap.size + 2 < w2.heap.size := by have := hb2.size; omega
  go_wp2_with fail
  refine (product_any _ _ _ ⟨by omega, by omega⟩ ⟨by omega, by omega⟩).mono ?_
  rintro e w3 ⟨rfl, rfl⟩
  go_wp2_with fail
  refine (product_any _ _ _ ⟨by omega, by omega⟩ ⟨by omega, by omega⟩).mono ?_
  rintro e w3 ⟨rfl, rfl⟩
  go_wp2_with fail
  refine (product_any _ _ _ ⟨by omega, by omega⟩ ⟨by omega, by omega⟩).mono ?_
  rintro e w3 ⟨rfl, rfl⟩
  go_wp2_with fail
  refine (product_any _ _ _ ⟨by omega, by omega⟩ ⟨by omega, by omega⟩).mono ?_
  rintro e w3 ⟨rfl, rfl⟩
  go_wp2_with fail
  have hB := (below3 hb).trans (hb2.mono (by omega))
  exact bodyPost_ret (v := R3 (min4 (prd a c) (prd a d) (prd b c) (prd b d), max4 (prd a c) (prd a d) (prd b c) (prd b d), 0)) (by simp [results, Try.results23, go_sem, hc, hf, hz, hc2, hf2, hz2, hz0, hz1]) rfl ⟨rfl, by go_grown⟩

set_option maxHeartbeats 400000 in
theorem mul_big1 (a b c d : Int) (w : World) (hv : vld a b = true) (hu : vld c d = true) (s1 : sml (a * c) = false) :
    Calls Try.prog 23 #[ivl a b, ivl c d] w fun e w' => e = .returned (R3 (0, 0, 4)) ∧ Below w.heap.size w w' := by
  obtain ⟨v1, v2, v3⟩ := vld_t hv
  obtain ⟨u1, u2, u3⟩ := vld_t hu
  go_enter Try.func23, Try.ntmps23
  go_wp2_with fail
  refine (valid_any _ _ _).mono ?_
  rintro e w1 ⟨rfl, hb⟩
  obtain ⟨hc, hf⟩ := bcell hb
  have hz : w.heap.size + 2 < w1.heap.size := by have := hb.size; simp at this; omega
  simp only [World.size_alloc] at hc hf
  have hz0 : w.heap.size < w1.heap.size := by omega
  have hz1 : w.heap.size + 1 < w1.heap.size := by omega
  go_wp2_with fail
  refine (valid_any _ _ _).mono ?_
  rintro e w2 ⟨rfl, hb2⟩
  obtain ⟨hc2, hf2⟩ := bcell hb2
  have hz2 : w.heap.size + 2 < w2.heap.size := by have := hb2.size; omega
  go_wp2_with fail
  refine (product_any _ _ _ ⟨by omega, by omega⟩ ⟨by omega, by omega⟩).mono ?_
  rintro e w3 ⟨rfl, rfl⟩
  go_wp2_with fail
  refine (product_any _ _ _ ⟨by omega, by omega⟩ ⟨by omega, by omega⟩).mono ?_
  rintro e w3 ⟨rfl, rfl⟩
  go_wp2_with fail
  refine (product_any _ _ _ ⟨by omega, by omega⟩ ⟨by omega, by omega⟩).mono ?_
  rintro e w3 ⟨rfl, rfl⟩
  go_wp2_with fail
  refine (product_any _ _ _ ⟨by omega, by omega⟩ ⟨by omega, by omega⟩).mono ?_
  rintro e w3 ⟨rfl, rfl⟩
  go_wp2_with fail
  have hB := (below3 hb).trans (hb2.mono (by omega))
  exact bodyPost_ret (v := R3 (0, 0, 4)) (by simp [results, Try.results23, go_sem, hc, hf, hz, hc2, hf2, hz2, hz0, hz1]) rfl ⟨rfl, by go_grown⟩

set_option maxHeartbeats 400000 in
theorem mul_big2 (a b c d : Int) (w : World) (hv : vld a b = true) (hu : vld c d = true) (s1 : sml (a * c) = true) (s2 : sml (a * d) = false) :
    Calls Try.prog 23 #[ivl a b, ivl c d] w fun e w' => e = .returned (R3 (0, 0, 4)) ∧ Below w.heap.size w w' := by
  obtain ⟨v1, v2, v3⟩ := vld_t hv
  obtain ⟨u1, u2, u3⟩ := vld_t hu
  go_enter Try.func23, Try.ntmps23
  go_wp2_with fail
  refine (valid_any _ _ _).mono ?_
  rintro e w1 ⟨rfl, hb⟩
  obtain ⟨hc, hf⟩ := bcell hb
  have hz : w.heap.size + 2 < w1.heap.size := by have := hb.size; simp at this; omega
  simp only [World.size_alloc] at hc hf
  have hz0 : w.heap.size < w1.heap.size := by omega
  have hz1 : w.heap.size + 1 < w1.heap.size := by omega
  go_wp2_with fail
  refine (valid_any _ _ _).mono ?_
  rintro e w2 ⟨rfl, hb2⟩
  obtain ⟨hc2, hf2⟩ := bcell hb2
  have hz2 : w.heap.size + 2 < w2.heap.size := by have := hb2.size; omega
  go_wp2_with fail
  refine (product_any _ _ _ ⟨by omega, by omega⟩ ⟨by omega, by omega⟩).mono ?_
  rintro e w3 ⟨rfl, rfl⟩
  go_wp2_with fail
  refine (product_any _ _ _ ⟨by omega, by omega⟩ ⟨by omega, by omega⟩).mono ?_
  rintro e w3 ⟨rfl, rfl⟩
  go_wp2_with fail
  refine (product_any _ _ _ ⟨by omega, by omega⟩ ⟨by omega, by omega⟩).mono ?_
  rintro e w3 ⟨rfl, rfl⟩
  go_wp2_with fail
  refine (product_any _ _ _ ⟨by omega, by omega⟩ ⟨by omega, by omega⟩).mono ?_
  rintro e w3 ⟨rfl, rfl⟩
  go_wp2_with fail
  have hB := (below3 hb).trans (hb2.mono (by omega))
  exact bodyPost_ret (v := R3 (0, 0, 4)) (by simp [results, Try.results23, go_sem, hc, hf, hz, hc2, hf2, hz2, hz0, hz1]) rfl ⟨rfl, by go_grown⟩

set_option maxHeartbeats 400000 in
theorem mul_big3 (a b c d : Int) (w : World) (hv : vld a b = true) (hu : vld c d = true) (s1 : sml (a * c) = true) (s2 : sml (a * d) = true) (s3 : sml (b * c) = false) :
    Calls Try.prog 23 #[ivl a b, ivl c d] w fun e w' => e = .returned (R3 (0, 0, 4)) ∧ Below w.heap.size w w' := by
  obtain ⟨v1, v2, v3⟩ := vld_t hv
  obtain ⟨u1, u2, u3⟩ := vld_t hu
  go_enter Try.func23, Try.ntmps23
  go_wp2_with fail
  refine (valid_any _ _ _).mono ?_
  rintro e w1 ⟨rfl, hb⟩
  obtain ⟨hc, hf⟩ := bcell hb
  have hz : w.heap.size + 2 < w1.heap.size := by have := hb.size; simp at this; omega
  simp only [World.size_alloc] at hc hf
  have hz0 : w.heap.size < w1.heap.size := by omega
  have hz1 : w.heap.size + 1 < w1.heap.size := by omega
  go_wp2_with fail
  refine (valid_any _ _ _).mono ?_
  rintro e w2 ⟨rfl, hb2⟩
  obtain ⟨hc2, hf2⟩ := bcell hb2
  have hz2 : w.heap.size + 2 < w2.heap.size := by have := hb2.size; omega
  go_wp2_with fail
  refine (product_any _ _ _ ⟨by omega, by omega⟩ ⟨by omega, by omega⟩).mono ?_
  rintro e w3 ⟨rfl, rfl⟩
  go_wp2_with fail
  refine (product_any _ _ _ ⟨by omega, by omega⟩ ⟨by omega, by omega⟩).mono ?_
  rintro e w3 ⟨rfl, rfl⟩
  go_wp2_with fail
  refine (product_any _ _ _ ⟨by omega, by omega⟩ ⟨by omega, by omega⟩).mono ?_
  rintro e w3 ⟨rfl, rfl⟩
  go_wp2_with fail
  refine (product_any _ _ _ ⟨by omega, by omega⟩ ⟨by omega, by omega⟩).mono ?_
  rintro e w3 ⟨rfl, rfl⟩
  go_wp2_with fail
  have hB := (below3 hb).trans (hb2.mono (by omega))
  exact bodyPost_ret (v := R3 (0, 0, 4)) (by simp [results, Try.results23, go_sem, hc, hf, hz, hc2, hf2, hz2, hz0, hz1]) rfl ⟨rfl, by go_grown⟩

set_option maxHeartbeats 400000 in
theorem mul_big4 (a b c d : Int) (w : World) (hv : vld a b = true) (hu : vld c d = true) (s1 : sml (a * c) = true) (s2 : sml (a * d) = true) (s3 : sml (b * c) = true) (s4 : sml (b * d) = false) :
    Calls Try.prog 23 #[ivl a b, ivl c d] w fun e w' => e = .returned (R3 (0, 0, 4)) ∧ Below w.heap.size w w' := by
  obtain ⟨v1, v2, v3⟩ := vld_t hv
  obtain ⟨u1, u2, u3⟩ := vld_t hu
  go_enter Try.func23, Try.ntmps23
  go_wp2_with fail
  refine (valid_any _ _ _).mono ?_
  rintro e w1 ⟨rfl, hb⟩
  obtain ⟨hc, hf⟩ := bcell hb
  have hz : w.heap.size + 2 < w1.heap.size := by have := hb.size; simp at this; omega
  simp only [World.size_alloc] at hc hf
  have hz0 : w.heap.size < w1.heap.size := by omega
  have hz1 : w.heap.size + 1 < w1.heap.size := by omega
  go_wp2_with fail
  refine (valid_any _ _ _).mono ?_
  rintro e w2 ⟨rfl, hb2⟩
  obtain ⟨hc2, hf2⟩ := bcell hb2
  have hz2 : w.heap.size + 2 < w2.heap.size := by have := hb2.size; omega
  go_wp2_with fail
  refine (product_any _ _ _ ⟨by omega, by omega⟩ ⟨by omega, by omega⟩).mono ?_
  rintro e w3 ⟨rfl, rfl⟩
  go_wp2_with fail
  refine (product_any _ _ _ ⟨by omega, by omega⟩ ⟨by omega, by omega⟩).mono ?_
  rintro e w3 ⟨rfl, rfl⟩
  go_wp2_with fail
  refine (product_any _ _ _ ⟨by omega, by omega⟩ ⟨by omega, by omega⟩).mono ?_
  rintro e w3 ⟨rfl, rfl⟩
  go_wp2_with fail
  refine (product_any _ _ _ ⟨by omega, by omega⟩ ⟨by omega, by omega⟩).mono ?_
  rintro e w3 ⟨rfl, rfl⟩
  go_wp2_with fail
  have hB := (below3 hb).trans (hb2.mono (by omega))
  exact bodyPost_ret (v := R3 (0, 0, 4)) (by simp [results, Try.results23, go_sem, hc, hf, hz, hc2, hf2, hz2, hz0, hz1]) rfl ⟨rfl, by go_grown⟩

theorem mul_any (a b c d : Int) (w : World) :
    Calls Try.prog 23 #[ivl a b, ivl c d] w fun e w' => e = .returned (R3 (mulR a b c d)) ∧ Below w.heap.size w w' := by
  unfold mulR
  cases hv : vld a b
  · rw [if_neg (by simp)]; exact mul_bad1 a b c d w hv
  cases hu : vld c d
  · rw [if_neg (by simp)]; exact mul_bad2 a b c d w hv hu
  rw [if_pos ⟨rfl, rfl⟩]
  cases s1 : sml (a * c)
  · rw [if_neg (by simp [sml4, s1])]; exact mul_big1 a b c d w hv hu s1
  cases s2 : sml (a * d)
  · rw [if_neg (by simp [sml4, s2])]; exact mul_big2 a b c d w hv hu s1 s2
  cases s3 : sml (b * c)
  · rw [if_neg (by simp [sml4, s3])]; exact mul_big3 a b c d w hv hu s1 s2 s3
  cases s4 : sml (b * d)
  · rw [if_neg (by simp [sml4, s4])]; exact mul_big4 a b c d w hv hu s1 s2 s3 s4
  rw [if_pos (by simp [sml4, s1, s2, s3, s4])]
  have h := mul_ok a b c d w hv hu s1 s2 s3 s4
  simp only [prd, s1, s2, s3, s4, if_true] at h
  exact h

end Go.Proofs.Ytfpjpilhblhhgaa
