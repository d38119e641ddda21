/-
  The contract of Scale.
-/
import Derived.Test.YtfpjpilhblhhgaaMulI
set_option linter.unusedSimpArgs false
set_option linter.unusedVariables false
namespace Go.Proofs.Ytfpjpilhblhhgaa
open Go.RowKit

theorem mul_bd (a num : Int) (h1 : -1000000000000 ≤ a) (h2 : a ≤ 1000000000000) (h3 : -1000000 ≤ num) (h4 : num ≤ 1000000) :
    -1000000000000000000 ≤ a * num ∧ a * num ≤ 1000000000000000000 := by
  have h : (a * num).natAbs ≤ 1000000000000 * 1000000 := by
    rw [Int.natAbs_mul]; exact Nat.mul_le_mul (by omega) (by omega)
  omega

theorem fct_t {n : Int} (h : fct n = true) : -1000000 ≤ n ∧ n ≤ 1000000 := by simpa [fct] using h

/-- The ends that Scale rounds. -/
def scl (x y den : Int) : Int × Int × Int := if (flr x den).2 ≠ 0 then (0, 0, (flr x den).2) else if (cil y den).2 ≠ 0 then (0, 0, (cil y den).2) else ((flr x den).1, (cil y den).1, 0)
def scaleR (a b num den : Int) : Int × Int × Int :=
  if vld a b = false then (0, 0, 1) else if fct num = false ∨ fct den = false then (0, 0, 2) else if den = 0 then (0, 0, 5)
  else if decide (num < 0) = decide (den < 0) then scl (a * num) (b * num) den else scl (b * num) (a * num) den

set_option maxHeartbeats 400000 in
theorem scale_bad1 (a b num den : Int) (w : World) (hv : vld a b = false) :
    Calls Try.prog 25 #[ivl a b, .int .i64 num, .int .i64 den] w fun e w' => e = .returned (R3 (0, 0, 1)) ∧ Below w.heap.size w w' := by
  go_enter Try.func25, Try.ntmps25
  go_wp2_with fail
  refine (valid_any _ _ _).mono ?_
  rintro e w1 ⟨rfl, hb⟩
  obtain ⟨hc, hf⟩ := bcell hb
  have hz : w.heap.size + 1 < w1.heap.size := by have := hb.size; simp at this; omega
  have hz0 : w.heap.size < w1.heap.size := by omega
  simp only [World.size_alloc] at hc hf
  have hB := below2 hb
  go_wp2_with fail
  exact bodyPost_ret (v := R3 (0, 0, 1)) (by simp [results, Try.results25, go_sem, hc, hf, hz, hz0]) rfl ⟨rfl, by go_grown⟩

set_option maxHeartbeats 400000 in
theorem scale_bad2 (a b num den : Int) (w : World) (hv : vld a b = true) (hn : fct num = false) :
    Calls Try.prog 25 #[ivl a b, .int .i64 num, .int .i64 den] w fun e w' => e = .returned (R3 (0, 0, 2)) ∧ Below w.heap.size w w' := by
  go_enter Try.func25, Try.ntmps25
  go_wp2_with fail
  refine (valid_any _ _ _).mono ?_
  rintro e w1 ⟨rfl, hb⟩
  obtain ⟨hc, hf⟩ := bcell hb
  have hz : w.heap.size + 1 < w1.heap.size := by have := hb.size; simp at this; omega
  have hz0 : w.heap.size < w1.heap.size := by omega
  simp only [World.size_alloc] at hc hf
  have hB := below2 hb
  go_wp2_with fail
  refine (isFactor_any _ _).mono ?_
  rintro e w2 ⟨rfl, rfl⟩
  go_wp2_with fail
  exact bodyPost_ret (v := R3 (0, 0, 2)) (by simp [results, Try.results25, go_sem, hc, hf, hz, hz0]) rfl ⟨rfl, by go_grown⟩

set_option maxHeartbeats 400000 in
theorem scale_bad3 (a b num den : Int) (w : World) (hv : vld a b = true) (hn : fct num = true) (hd : fct den = false) :
    Calls Try.prog 25 #[ivl a b, .int .i64 num, .int .i64 den] w fun e w' => e = .returned (R3 (0, 0, 2)) ∧ Below w.heap.size w w' := by
  go_enter Try.func25, Try.ntmps25
  go_wp2_with fail
  refine (valid_any _ _ _).mono ?_
  rintro e w1 ⟨rfl, hb⟩
  obtain ⟨hc, hf⟩ := bcell hb
  have hz : w.heap.size + 1 < w1.heap.size := by have := hb.size; simp at this; omega
  have hz0 : w.heap.size < w1.heap.size := by omega
  simp only [World.size_alloc] at hc hf
  have hB := below2 hb
  go_wp2_with fail
  refine (isFactor_any _ _).mono ?_
  rintro e w2 ⟨rfl, rfl⟩
  go_wp2_with fail
  refine (isFactor_any _ _).mono ?_
  rintro e w2 ⟨rfl, rfl⟩
  go_wp2_with fail
  exact bodyPost_ret (v := R3 (0, 0, 2)) (by simp [results, Try.results25, go_sem, hc, hf, hz, hz0]) rfl ⟨rfl, by go_grown⟩

set_option maxHeartbeats 400000 in
theorem scale_bad4 (a b num den : Int) (w : World) (hv : vld a b = true) (hn : fct num = true) (hd : fct den = true) (h0 : (den == 0) = true) :
    Calls Try.prog 25 #[ivl a b, .int .i64 num, .int .i64 den] w fun e w' => e = .returned (R3 (0, 0, 5)) ∧ Below w.heap.size w w' := by
  go_enter Try.func25, Try.ntmps25
  go_wp2_with fail
  refine (valid_any _ _ _).mono ?_
  rintro e w1 ⟨rfl, hb⟩
  obtain ⟨hc, hf⟩ := bcell hb
  have hz : w.heap.size + 1 < w1.heap.size := by have := hb.size; simp at this; omega
  have hz0 : w.heap.size < w1.heap.size := by omega
  simp only [World.size_alloc] at hc hf
  have hB := below2 hb
  go_wp2_with fail
  refine (isFactor_any _ _).mono ?_
  rintro e w2 ⟨rfl, rfl⟩
  go_wp2_with fail
  refine (isFactor_any _ _).mono ?_
  rintro e w2 ⟨rfl, rfl⟩
  go_wp2_with fail
  exact bodyPost_ret (v := R3 (0, 0, 5)) (by simp [results, Try.results25, go_sem, hc, hf, hz, hz0]) rfl ⟨rfl, by go_grown⟩

set_option maxHeartbeats 400000 in
theorem scale_f0 (a b num den : Int) (w : World) (hv : vld a b = true) (hn : fct num = true) (hd : fct den = true) (h0 : (den == 0) = false) (sn : decide (num < 0) = true) (sd : decide (den < 0) = true) (e1 : ((flr (a * num) den).2 != 0) = true) :
    Calls Try.prog 25 #[ivl a b, .int .i64 num, .int .i64 den] w fun e w' => e = .returned (R3 (0, 0, (flr (a * num) den).2)) ∧ Below w.heap.size w w' := by
  obtain ⟨v1, v2, v3⟩ := vld_t hv
  obtain ⟨n1, n2⟩ := fct_t hn
  obtain ⟨d1, d2⟩ := fct_t hd
  obtain ⟨p1, p2⟩ := mul_bd a num (by omega) (by omega) n1 n2
  obtain ⟨p3, p4⟩ := mul_bd b num (by omega) (by omega) n1 n2
  go_enter Try.func25, Try.ntmps25
  go_wp2_with fail
  refine (valid_any _ _ _).mono ?_
  rintro e w1 ⟨rfl, hb⟩
  obtain ⟨hc, hf⟩ := bcell hb
  have hz : w.heap.size + 1 < w1.heap.size := by have := hb.size; simp at this; omega
  have hz0 : w.heap.size < w1.heap.size := by omega
  simp only [World.size_alloc] at hc hf
  have hB := below2 hb
  go_wp2_with fail
  refine (isFactor_any _ _).mono ?_
  rintro e w2 ⟨rfl, rfl⟩
  go_wp2_with fail
  refine (isFactor_any _ _).mono ?_
  rintro e w2 ⟨rfl, rfl⟩
  go_wp2_with fail
  go_quiet (fail)
  go_wp2_with fail
  refine (floor_any _ _ _ (by omega) (by omega)).mono ?_
  rintro e w2 ⟨rfl, n, rfl⟩
  go_wp2_with fail
  refine bodyPost_ret (v := R3 (0, 0, (flr (a * num) den).2)) (by simp [results, Try.results25, go_sem, hc, hf, hz, hz0]) rfl ⟨rfl, ?_⟩
  repeat (first | exact hB | refine Below.setCell ?_ (by simp) _ | refine bdn ?_)

set_option maxHeartbeats 400000 in
theorem scale_c0 (a b num den : Int) (w : World) (hv : vld a b = true) (hn : fct num = true) (hd : fct den = true) (h0 : (den == 0) = false) (sn : decide (num < 0) = true) (sd : decide (den < 0) = true) (e1 : ((flr (a * num) den).2 != 0) = false) (e2 : ((cil (b * num) den).2 != 0) = true) :
    Calls Try.prog 25 #[ivl a b, .int .i64 num, .int .i64 den] w fun e w' => e = .returned (R3 (0, 0, (cil (b * num) den).2)) ∧ Below w.heap.size w w' := by
  obtain ⟨v1, v2, v3⟩ := vld_t hv
  obtain ⟨n1, n2⟩ := fct_t hn
  obtain ⟨d1, d2⟩ := fct_t hd
  obtain ⟨p1, p2⟩ := mul_bd a num (by omega) (by omega) n1 n2
  obtain ⟨p3, p4⟩ := mul_bd b num (by omega) (by omega) n1 n2
  go_enter Try.func25, Try.ntmps25
  go_wp2_with fail
  refine (valid_any _ _ _).mono ?_
  rintro e w1 ⟨rfl, hb⟩
  obtain ⟨hc, hf⟩ := bcell hb
  have hz : w.heap.size + 1 < w1.heap.size := by have := hb.size; simp at this; omega
  have hz0 : w.heap.size < w1.heap.size := by omega
  simp only [World.size_alloc] at hc hf
  have hB := below2 hb
  go_wp2_with fail
  refine (isFactor_any _ _).mono ?_
  rintro e w2 ⟨rfl, rfl⟩
  go_wp2_with fail
  refine (isFactor_any _ _).mono ?_
  rintro e w2 ⟨rfl, rfl⟩
  go_wp2_with fail
  go_quiet (fail)
  go_wp2_with fail
  refine (floor_any _ _ _ (by omega) (by omega)).mono ?_
  rintro e w2 ⟨rfl, n, rfl⟩
  go_wp2_with fail
  refine (ceil_any _ _ _ (by omega) (by omega)).mono ?_
  rintro e w2 ⟨rfl, n2, rfl⟩
  go_wp2_with fail
  refine bodyPost_ret (v := R3 (0, 0, (cil (b * num) den).2)) (by simp [results, Try.results25, go_sem, hc, hf, hz, hz0]) rfl ⟨rfl, ?_⟩
  repeat (first | exact hB | refine Below.setCell ?_ (by simp) _ | refine bdn ?_)

set_option maxHeartbeats 400000 in
theorem scale_o0 (a b num den : Int) (w : World) (hv : vld a b = true) (hn : fct num = true) (hd : fct den = true) (h0 : (den == 0) = false) (sn : decide (num < 0) = true) (sd : decide (den < 0) = true) (e1 : ((flr (a * num) den).2 != 0) = false) (e2 : ((cil (b * num) den).2 != 0) = false) :
    Calls Try.prog 25 #[ivl a b, .int .i64 num, .int .i64 den] w fun e w' => e = .returned (R3 ((flr (a * num) den).1, (cil (b * num) den).1, 0)) ∧ Below w.heap.size w w' := by
  obtain ⟨v1, v2, v3⟩ := vld_t hv
  obtain ⟨n1, n2⟩ := fct_t hn
  obtain ⟨d1, d2⟩ := fct_t hd
  obtain ⟨p1, p2⟩ := mul_bd a num (by omega) (by omega) n1 n2
  obtain ⟨p3, p4⟩ := mul_bd b num (by omega) (by omega) n1 n2
  go_enter Try.func25, Try.ntmps25
  go_wp2_with fail
  refine (valid_any _ _ _).mono ?_
  rintro e w1 ⟨rfl, hb⟩
  obtain ⟨hc, hf⟩ := bcell hb
  have hz : w.heap.size + 1 < w1.heap.size := by have := hb.size; simp at this; omega
  have hz0 : w.heap.size < w1.heap.size := by omega
  simp only [World.size_alloc] at hc hf
  have hB := below2 hb
  go_wp2_with fail
  refine (isFactor_any _ _).mono ?_
  rintro e w2 ⟨rfl, rfl⟩
  go_wp2_with fail
  refine (isFactor_any _ _).mono ?_
  rintro e w2 ⟨rfl, rfl⟩
  go_wp2_with fail
  go_quiet (fail)
  go_wp2_with fail
  refine (floor_any _ _ _ (by omega) (by omega)).mono ?_
  rintro e w2 ⟨rfl, n, rfl⟩
  go_wp2_with fail
  refine (ceil_any _ _ _ (by omega) (by omega)).mono ?_
  rintro e w2 ⟨rfl, n2, rfl⟩
  go_wp2_with fail
  refine bodyPost_ret (v := R3 ((flr (a * num) den).1, (cil (b * num) den).1, 0)) (by simp [results, Try.results25, go_sem, hc, hf, hz, hz0]) rfl ⟨rfl, ?_⟩
  repeat (first | exact hB | refine Below.setCell ?_ (by simp) _ | refine bdn ?_)

set_option maxHeartbeats 400000 in
theorem scale_f1 (a b num den : Int) (w : World) (hv : vld a b = true) (hn : fct num = true) (hd : fct den = true) (h0 : (den == 0) = false) (sn : decide (num < 0) = false) (sd : decide (den < 0) = false) (e1 : ((flr (a * num) den).2 != 0) = true) :
    Calls Try.prog 25 #[ivl a b, .int .i64 num, .int .i64 den] w fun e w' => e = .returned (R3 (0, 0, (flr (a * num) den).2)) ∧ Below w.heap.size w w' := by
  obtain ⟨v1, v2, v3⟩ := vld_t hv
  obtain ⟨n1, n2⟩ := fct_t hn
  obtain ⟨d1, d2⟩ := fct_t hd
  obtain ⟨p1, p2⟩ := mul_bd a num (by omega) (by omega) n1 n2
  obtain ⟨p3, p4⟩ := mul_bd b num (by omega) (by omega) n1 n2
  go_enter Try.func25, Try.ntmps25
  go_wp2_with fail
  refine (valid_any _ _ _).mono ?_
  rintro e w1 ⟨rfl, hb⟩
  obtain ⟨hc, hf⟩ := bcell hb
  have hz : w.heap.size + 1 < w1.heap.size := by have := hb.size; simp at this; omega
  have hz0 : w.heap.size < w1.heap.size := by omega
  simp only [World.size_alloc] at hc hf
  have hB := below2 hb
  go_wp2_with fail
  refine (isFactor_any _ _).mono ?_
  rintro e w2 ⟨rfl, rfl⟩
  go_wp2_with fail
  refine (isFactor_any _ _).mono ?_
  rintro e w2 ⟨rfl, rfl⟩
  go_wp2_with fail
  go_quiet (fail)
  go_wp2_with fail
  refine (floor_any _ _ _ (by omega) (by omega)).mono ?_
  rintro e w2 ⟨rfl, n, rfl⟩
  go_wp2_with fail
  refine bodyPost_ret (v := R3 (0, 0, (flr (a * num) den).2)) (by simp [results, Try.results25, go_sem, hc, hf, hz, hz0]) rfl ⟨rfl, ?_⟩
  repeat (first | exact hB | refine Below.setCell ?_ (by simp) _ | refine bdn ?_)

set_option maxHeartbeats 400000 in
theorem scale_c1 (a b num den : Int) (w : World) (hv : vld a b = true) (hn : fct num = true) (hd : fct den = true) (h0 : (den == 0) = false) (sn : decide (num < 0) = false) (sd : decide (den < 0) = false) (e1 : ((flr (a * num) den).2 != 0) = false) (e2 : ((cil (b * num) den).2 != 0) = true) :
    Calls Try.prog 25 #[ivl a b, .int .i64 num, .int .i64 den] w fun e w' => e = .returned (R3 (0, 0, (cil (b * num) den).2)) ∧ Below w.heap.size w w' := by
  obtain ⟨v1, v2, v3⟩ := vld_t hv
  obtain ⟨n1, n2⟩ := fct_t hn
  obtain ⟨d1, d2⟩ := fct_t hd
  obtain ⟨p1, p2⟩ := mul_bd a num (by omega) (by omega) n1 n2
  obtain ⟨p3, p4⟩ := mul_bd b num (by omega) (by omega) n1 n2
  go_enter Try.func25, Try.ntmps25
  go_wp2_with fail
  refine (valid_any _ _ _).mono ?_
  rintro e w1 ⟨rfl, hb⟩
  obtain ⟨hc, hf⟩ := bcell hb
  have hz : w.heap.size + 1 < w1.heap.size := by have := hb.size; simp at this; omega
  have hz0 : w.heap.size < w1.heap.size := by omega
  simp only [World.size_alloc] at hc hf
  have hB := below2 hb
  go_wp2_with fail
  refine (isFactor_any _ _).mono ?_
  rintro e w2 ⟨rfl, rfl⟩
  go_wp2_with fail
  refine (isFactor_any _ _).mono ?_
  rintro e w2 ⟨rfl, rfl⟩
  go_wp2_with fail
  go_quiet (fail)
  go_wp2_with fail
  refine (floor_any _ _ _ (by omega) (by omega)).mono ?_
  rintro e w2 ⟨rfl, n, rfl⟩
  go_wp2_with fail
  refine (ceil_any _ _ _ (by omega) (by omega)).mono ?_
  rintro e w2 ⟨rfl, n2, rfl⟩
  go_wp2_with fail
  refine bodyPost_ret (v := R3 (0, 0, (cil (b * num) den).2)) (by simp [results, Try.results25, go_sem, hc, hf, hz, hz0]) rfl ⟨rfl, ?_⟩
  repeat (first | exact hB | refine Below.setCell ?_ (by simp) _ | refine bdn ?_)

set_option maxHeartbeats 400000 in
theorem scale_o1 (a b num den : Int) (w : World) (hv : vld a b = true) (hn : fct num = true) (hd : fct den = true) (h0 : (den == 0) = false) (sn : decide (num < 0) = false) (sd : decide (den < 0) = false) (e1 : ((flr (a * num) den).2 != 0) = false) (e2 : ((cil (b * num) den).2 != 0) = false) :
    Calls Try.prog 25 #[ivl a b, .int .i64 num, .int .i64 den] w fun e w' => e = .returned (R3 ((flr (a * num) den).1, (cil (b * num) den).1, 0)) ∧ Below w.heap.size w w' := by
  obtain ⟨v1, v2, v3⟩ := vld_t hv
  obtain ⟨n1, n2⟩ := fct_t hn
  obtain ⟨d1, d2⟩ := fct_t hd
  obtain ⟨p1, p2⟩ := mul_bd a num (by omega) (by omega) n1 n2
  obtain ⟨p3, p4⟩ := mul_bd b num (by omega) (by omega) n1 n2
  go_enter Try.func25, Try.ntmps25
  go_wp2_with fail
  refine (valid_any _ _ _).mono ?_
  rintro e w1 ⟨rfl, hb⟩
  obtain ⟨hc, hf⟩ := bcell hb
  have hz : w.heap.size + 1 < w1.heap.size := by have := hb.size; simp at this; omega
  have hz0 : w.heap.size < w1.heap.size := by omega
  simp only [World.size_alloc] at hc hf
  have hB := below2 hb
  go_wp2_with fail
  refine (isFactor_any _ _).mono ?_
  rintro e w2 ⟨rfl, rfl⟩
  go_wp2_with fail
  refine (isFactor_any _ _).mono ?_
  rintro e w2 ⟨rfl, rfl⟩
  go_wp2_with fail
  go_quiet (fail)
  go_wp2_with fail
  refine (floor_any _ _ _ (by omega) (by omega)).mono ?_
  rintro e w2 ⟨rfl, n, rfl⟩
  go_wp2_with fail
  refine (ceil_any _ _ _ (by omega) (by omega)).mono ?_
  rintro e w2 ⟨rfl, n2, rfl⟩
  go_wp2_with fail
  refine bodyPost_ret (v := R3 ((flr (a * num) den).1, (cil (b * num) den).1, 0)) (by simp [results, Try.results25, go_sem, hc, hf, hz, hz0]) rfl ⟨rfl, ?_⟩
  repeat (first | exact hB | refine Below.setCell ?_ (by simp) _ | refine bdn ?_)

set_option maxHeartbeats 400000 in
theorem scale_f2 (a b num den : Int) (w : World) (hv : vld a b = true) (hn : fct num = true) (hd : fct den = true) (h0 : (den == 0) = false) (sn : decide (num < 0) = true) (sd : decide (den < 0) = false) (e1 : ((flr (b * num) den).2 != 0) = true) :
    Calls Try.prog 25 #[ivl a b, .int .i64 num, .int .i64 den] w fun e w' => e = .returned (R3 (0, 0, (flr (b * num) den).2)) ∧ Below w.heap.size w w' := by
  obtain ⟨v1, v2, v3⟩ := vld_t hv
  obtain ⟨n1, n2⟩ := fct_t hn
  obtain ⟨d1, d2⟩ := fct_t hd
  obtain ⟨p1, p2⟩ := mul_bd a num (by omega) (by omega) n1 n2
  obtain ⟨p3, p4⟩ := mul_bd b num (by omega) (by omega) n1 n2
  go_enter Try.func25, Try.ntmps25
  go_wp2_with fail
  refine (valid_any _ _ _).mono ?_
  rintro e w1 ⟨rfl, hb⟩
  obtain ⟨hc, hf⟩ := bcell hb
  have hz : w.heap.size + 1 < w1.heap.size := by have := hb.size; simp at this; omega
  have hz0 : w.heap.size < w1.heap.size := by omega
  simp only [World.size_alloc] at hc hf
  have hB := below2 hb
  go_wp2_with fail
  refine (isFactor_any _ _).mono ?_
  rintro e w2 ⟨rfl, rfl⟩
  go_wp2_with fail
  refine (isFactor_any _ _).mono ?_
  rintro e w2 ⟨rfl, rfl⟩
  go_wp2_with fail
  go_quiet (fail)
  go_wp2_with fail
  refine (floor_any _ _ _ (by omega) (by omega)).mono ?_
  rintro e w2 ⟨rfl, n, rfl⟩
  go_wp2_with fail
  refine bodyPost_ret (v := R3 (0, 0, (flr (b * num) den).2)) (by simp [results, Try.results25, go_sem, hc, hf, hz, hz0]) rfl ⟨rfl, ?_⟩
  repeat (first | exact hB | refine Below.setCell ?_ (by simp) _ | refine bdn ?_)

set_option maxHeartbeats 400000 in
theorem scale_c2 (a b num den : Int) (w : World) (hv : vld a b = true) (hn : fct num = true) (hd : fct den = true) (h0 : (den == 0) = false) (sn : decide (num < 0) = true) (sd : decide (den < 0) = false) (e1 : ((flr (b * num) den).2 != 0) = false) (e2 : ((cil (a * num) den).2 != 0) = true) :
    Calls Try.prog 25 #[ivl a b, .int .i64 num, .int .i64 den] w fun e w' => e = .returned (R3 (0, 0, (cil (a * num) den).2)) ∧ Below w.heap.size w w' := by
  obtain ⟨v1, v2, v3⟩ := vld_t hv
  obtain ⟨n1, n2⟩ := fct_t hn
  obtain ⟨d1, d2⟩ := fct_t hd
  obtain ⟨p1, p2⟩ := mul_bd a num (by omega) (by omega) n1 n2
  obtain ⟨p3, p4⟩ := mul_bd b num (by omega) (by omega) n1 n2
  go_enter Try.func25, Try.ntmps25
  go_wp2_with fail
  refine (valid_any _ _ _).mono ?_
  rintro e w1 ⟨rfl, hb⟩
  obtain ⟨hc, hf⟩ := bcell hb
  have hz : w.heap.size + 1 < w1.heap.size := by have := hb.size; simp at this; omega
  have hz0 : w.heap.size < w1.heap.size := by omega
  simp only [World.size_alloc] at hc hf
  have hB := below2 hb
  go_wp2_with fail
  refine (isFactor_any _ _).mono ?_
  rintro e w2 ⟨rfl, rfl⟩
  go_wp2_with fail
  refine (isFactor_any _ _).mono ?_
  rintro e w2 ⟨rfl, rfl⟩
  go_wp2_with fail
  go_quiet (fail)
  go_wp2_with fail
  refine (floor_any _ _ _ (by omega) (by omega)).mono ?_
  rintro e w2 ⟨rfl, n, rfl⟩
  go_wp2_with fail
  refine (ceil_any _ _ _ (by omega) (by omega)).mono ?_
  rintro e w2 ⟨rfl, n2, rfl⟩
  go_wp2_with fail
  refine bodyPost_ret (v := R3 (0, 0, (cil (a * num) den).2)) (by simp [results, Try.results25, go_sem, hc, hf, hz, hz0]) rfl ⟨rfl, ?_⟩
  repeat (first | exact hB | refine Below.setCell ?_ (by simp) _ | refine bdn ?_)

set_option maxHeartbeats 400000 in
theorem scale_o2 (a b num den : Int) (w : World) (hv : vld a b = true) (hn : fct num = true) (hd : fct den = true) (h0 : (den == 0) = false) (sn : decide (num < 0) = true) (sd : decide (den < 0) = false) (e1 : ((flr (b * num) den).2 != 0) = false) (e2 : ((cil (a * num) den).2 != 0) = false) :
    Calls Try.prog 25 #[ivl a b, .int .i64 num, .int .i64 den] w fun e w' => e = .returned (R3 ((flr (b * num) den).1, (cil (a * num) den).1, 0)) ∧ Below w.heap.size w w' := by
  obtain ⟨v1, v2, v3⟩ := vld_t hv
  obtain ⟨n1, n2⟩ := fct_t hn
  obtain ⟨d1, d2⟩ := fct_t hd
  obtain ⟨p1, p2⟩ := mul_bd a num (by omega) (by omega) n1 n2
  obtain ⟨p3, p4⟩ := mul_bd b num (by omega) (by omega) n1 n2
  go_enter Try.func25, Try.ntmps25
  go_wp2_with fail
  refine (valid_any _ _ _).mono ?_
  rintro e w1 ⟨rfl, hb⟩
  obtain ⟨hc, hf⟩ := bcell hb
  have hz : w.heap.size + 1 < w1.heap.size := by have := hb.size; simp at this; omega
  have hz0 : w.heap.size < w1.heap.size := by omega
  simp only [World.size_alloc] at hc hf
  have hB := below2 hb
  go_wp2_with fail
  refine (isFactor_any _ _).mono ?_
  rintro e w2 ⟨rfl, rfl⟩
  go_wp2_with fail
  refine (isFactor_any _ _).mono ?_
  rintro e w2 ⟨rfl, rfl⟩
  go_wp2_with fail
  go_quiet (fail)
  go_wp2_with fail
  refine (floor_any _ _ _ (by omega) (by omega)).mono ?_
  rintro e w2 ⟨rfl, n, rfl⟩
  go_wp2_with fail
  refine (ceil_any _ _ _ (by omega) (by omega)).mono ?_
  rintro e w2 ⟨rfl, n2, rfl⟩
  go_wp2_with fail
  refine bodyPost_ret (v := R3 ((flr (b * num) den).1, (cil (a * num) den).1, 0)) (by simp [results, Try.results25, go_sem, hc, hf, hz, hz0]) rfl ⟨rfl, ?_⟩
  repeat (first | exact hB | refine Below.setCell ?_ (by simp) _ | refine bdn ?_)

set_option maxHeartbeats 400000 in
theorem scale_f3 (a b num den : Int) (w : World) (hv : vld a b = true) (hn : fct num = true) (hd : fct den = true) (h0 : (den == 0) = false) (sn : decide (num < 0) = false) (sd : decide (den < 0) = true) (e1 : ((flr (b * num) den).2 != 0) = true) :
    Calls Try.prog 25 #[ivl a b, .int .i64 num, .int .i64 den] w fun e w' => e = .returned (R3 (0, 0, (flr (b * num) den).2)) ∧ Below w.heap.size w w' := by
  obtain ⟨v1, v2, v3⟩ := vld_t hv
  obtain ⟨n1, n2⟩ := fct_t hn
  obtain ⟨d1, d2⟩ := fct_t hd
  obtain ⟨p1, p2⟩ := mul_bd a num (by omega) (by omega) n1 n2
  obtain ⟨p3, p4⟩ := mul_bd b num (by omega) (by omega) n1 n2
  go_enter Try.func25, Try.ntmps25
  go_wp2_with fail
  refine (valid_any _ _ _).mono ?_
  rintro e w1 ⟨rfl, hb⟩
  obtain ⟨hc, hf⟩ := bcell hb
  have hz : w.heap.size + 1 < w1.heap.size := by have := hb.size; simp at this; omega
  have hz0 : w.heap.size < w1.heap.size := by omega
  simp only [World.size_alloc] at hc hf
  have hB := below2 hb
  go_wp2_with fail
  refine (isFactor_any _ _).mono ?_
  rintro e w2 ⟨rfl, rfl⟩
  go_wp2_with fail
  refine (isFactor_any _ _).mono ?_
  rintro e w2 ⟨rfl, rfl⟩
  go_wp2_with fail
  go_quiet (fail)
  go_wp2_with fail
  refine (floor_any _ _ _ (by omega) (by omega)).mono ?_
  rintro e w2 ⟨rfl, n, rfl⟩
  go_wp2_with fail
  refine bodyPost_ret (v := R3 (0, 0, (flr (b * num) den).2)) (by simp [results, Try.results25, go_sem, hc, hf, hz, hz0]) rfl ⟨rfl, ?_⟩
  repeat (first | exact hB | refine Below.setCell ?_ (by simp) _ | refine bdn ?_)

set_option maxHeartbeats 400000 in
theorem scale_c3 (a b num den : Int) (w : World) (hv : vld a b = true) (hn : fct num = true) (hd : fct den = true) (h0 : (den == 0) = false) (sn : decide (num < 0) = false) (sd : decide (den < 0) = true) (e1 : ((flr (b * num) den).2 != 0) = false) (e2 : ((cil (a * num) den).2 != 0) = true) :
    Calls Try.prog 25 #[ivl a b, .int .i64 num, .int .i64 den] w fun e w' => e = .returned (R3 (0, 0, (cil (a * num) den).2)) ∧ Below w.heap.size w w' := by
  obtain ⟨v1, v2, v3⟩ := vld_t hv
  obtain ⟨n1, n2⟩ := fct_t hn
  obtain ⟨d1, d2⟩ := fct_t hd
  obtain ⟨p1, p2⟩ := mul_bd a num (by omega) (by omega) n1 n2
  obtain ⟨p3, p4⟩ := mul_bd b num (by omega) (by omega) n1 n2
  go_enter Try.func25, Try.ntmps25
  go_wp2_with fail
  refine (valid_any _ _ _).mono ?_
  rintro e w1 ⟨rfl, hb⟩
  obtain ⟨hc, hf⟩ := bcell hb
  have hz : w.heap.size + 1 < w1.heap.size := by have := hb.size; simp at this; omega
  have hz0 : w.heap.size < w1.heap.size := by omega
  simp only [World.size_alloc] at hc hf
  have hB := below2 hb
  go_wp2_with fail
  refine (isFactor_any _ _).mono ?_
  rintro e w2 ⟨rfl, rfl⟩
  go_wp2_with fail
  refine (isFactor_any _ _).mono ?_
  rintro e w2 ⟨rfl, rfl⟩
  go_wp2_with fail
  go_quiet (fail)
  go_wp2_with fail
  refine (floor_any _ _ _ (by omega) (by omega)).mono ?_
  rintro e w2 ⟨rfl, n, rfl⟩
  go_wp2_with fail
  refine (ceil_any _ _ _ (by omega) (by omega)).mono ?_
  rintro e w2 ⟨rfl, n2, rfl⟩
  go_wp2_with fail
  refine bodyPost_ret (v := R3 (0, 0, (cil (a * num) den).2)) (by simp [results, Try.results25, go_sem, hc, hf, hz, hz0]) rfl ⟨rfl, ?_⟩
  repeat (first | exact hB | refine Below.setCell ?_ (by simp) _ | refine bdn ?_)

set_option maxHeartbeats 400000 in
theorem scale_o3 (a b num den : Int) (w : World) (hv : vld a b = true) (hn : fct num = true) (hd : fct den = true) (h0 : (den == 0) = false) (sn : decide (num < 0) = false) (sd : decide (den < 0) = true) (e1 : ((flr (b * num) den).2 != 0) = false) (e2 : ((cil (a * num) den).2 != 0) = false) :
    Calls Try.prog 25 #[ivl a b, .int .i64 num, .int .i64 den] w fun e w' => e = .returned (R3 ((flr (b * num) den).1, (cil (a * num) den).1, 0)) ∧ Below w.heap.size w w' := by
  obtain ⟨v1, v2, v3⟩ := vld_t hv
  obtain ⟨n1, n2⟩ := fct_t hn
  obtain ⟨d1, d2⟩ := fct_t hd
  obtain ⟨p1, p2⟩ := mul_bd a num (by omega) (by omega) n1 n2
  obtain ⟨p3, p4⟩ := mul_bd b num (by omega) (by omega) n1 n2
  go_enter Try.func25, Try.ntmps25
  go_wp2_with fail
  refine (valid_any _ _ _).mono ?_
  rintro e w1 ⟨rfl, hb⟩
  obtain ⟨hc, hf⟩ := bcell hb
  have hz : w.heap.size + 1 < w1.heap.size := by have := hb.size; simp at this; omega
  have hz0 : w.heap.size < w1.heap.size := by omega
  simp only [World.size_alloc] at hc hf
  have hB := below2 hb
  go_wp2_with fail
  refine (isFactor_any _ _).mono ?_
  rintro e w2 ⟨rfl, rfl⟩
  go_wp2_with fail
  refine (isFactor_any _ _).mono ?_
  rintro e w2 ⟨rfl, rfl⟩
  go_wp2_with fail
  go_quiet (fail)
  go_wp2_with fail
  refine (floor_any _ _ _ (by omega) (by omega)).mono ?_
  rintro e w2 ⟨rfl, n, rfl⟩
  go_wp2_with fail
  refine (ceil_any _ _ _ (by omega) (by omega)).mono ?_
  rintro e w2 ⟨rfl, n2, rfl⟩
  go_wp2_with fail
  refine bodyPost_ret (v := R3 ((flr (b * num) den).1, (cil (a * num) den).1, 0)) (by simp [results, Try.results25, go_sem, hc, hf, hz, hz0]) rfl ⟨rfl, ?_⟩
  repeat (first | exact hB | refine Below.setCell ?_ (by simp) _ | refine bdn ?_)

theorem bne_t {x : Int} (h : (x != 0) = true) : x ≠ 0 := by simpa using h
theorem bne_f {x : Int} (h : (x != 0) = false) : ¬ x ≠ 0 := by simpa using h

theorem scale_any (a b num den : Int) (w : World) :
    Calls Try.prog 25 #[ivl a b, .int .i64 num, .int .i64 den] w fun e w' => e = .returned (R3 (scaleR a b num den)) ∧ Below w.heap.size w w' := by
  unfold scaleR
  cases hv : vld a b
  · rw [if_pos rfl]; exact scale_bad1 a b num den w hv
  rw [if_neg (by simp)]
  cases hn : fct num
  · rw [if_pos (Or.inl rfl)]; exact scale_bad2 a b num den w hv hn
  cases hd : fct den
  · rw [if_pos (Or.inr rfl)]; exact scale_bad3 a b num den w hv hn hd
  rw [if_neg (by simp)]
  by_cases h0 : den = 0
  · rw [if_pos h0]; exact scale_bad4 a b num den w hv hn hd (beq_iff_eq.2 h0)
  rw [if_neg h0]
  have h0' : (den == 0) = false := beq_eq_false_iff_ne.2 h0
  unfold scl
  cases sn : decide (num < 0) <;> cases sd : decide (den < 0)
  · rw [if_pos rfl]
    cases e1 : ((flr (a * num) den).2 != 0)
    · rw [if_neg (bne_f e1)]
      cases e2 : ((cil (b * num) den).2 != 0)
      · rw [if_neg (bne_f e2)]; exact scale_o1 a b num den w hv hn hd h0' sn sd e1 e2
      · rw [if_pos (bne_t e2)]; exact scale_c1 a b num den w hv hn hd h0' sn sd e1 e2
    · rw [if_pos (bne_t e1)]; exact scale_f1 a b num den w hv hn hd h0' sn sd e1
  · rw [if_neg (by simp)]
    cases e1 : ((flr (b * num) den).2 != 0)
    · rw [if_neg (bne_f e1)]
      cases e2 : ((cil (a * num) den).2 != 0)
      · rw [if_neg (bne_f e2)]; exact scale_o3 a b num den w hv hn hd h0' sn sd e1 e2
      · rw [if_pos (bne_t e2)]; exact scale_c3 a b num den w hv hn hd h0' sn sd e1 e2
    · rw [if_pos (bne_t e1)]; exact scale_f3 a b num den w hv hn hd h0' sn sd e1
  · rw [if_neg (by simp)]
    cases e1 : ((flr (b * num) den).2 != 0)
    · rw [if_neg (bne_f e1)]
      cases e2 : ((cil (a * num) den).2 != 0)
      · rw [if_neg (bne_f e2)]; exact scale_o2 a b num den w hv hn hd h0' sn sd e1 e2
      · rw [if_pos (bne_t e2)]; exact scale_c2 a b num den w hv hn hd h0' sn sd e1 e2
    · rw [if_pos (bne_t e1)]; exact scale_f2 a b num den w hv hn hd h0' sn sd e1
  · rw [if_pos rfl]
    cases e1 : ((flr (a * num) den).2 != 0)
    · rw [if_neg (bne_f e1)]
      cases e2 : ((cil (b * num) den).2 != 0)
      · rw [if_neg (bne_f e2)]; exact scale_o0 a b num den w hv hn hd h0' sn sd e1 e2
      · rw [if_pos (bne_t e2)]; exact scale_c0 a b num den w hv hn hd h0' sn sd e1 e2
    · rw [if_pos (bne_t e1)]; exact scale_f0 a b num den w hv hn hd h0' sn sd e1

end Go.Proofs.Ytfpjpilhblhhgaa
