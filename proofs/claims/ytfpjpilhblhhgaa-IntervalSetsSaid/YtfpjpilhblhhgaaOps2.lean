/-
  The contracts of Hull and Meet: the program's and the reference's.
-/
import Derived.Test.YtfpjpilhblhhgaaOps
set_option linter.unusedSimpArgs false
set_option linter.unusedVariables false
namespace Go.Proofs.Ytfpjpilhblhhgaa
open Go.RowKit


set_option maxHeartbeats 400000 in
theorem hull_bad (a b c d : Int) (w : World) (h : vld a b = false ∨ vld c d = false) :
    Calls Try.prog 30 #[ivl a b, ivl c d] w fun e w' => e = .returned (R3 (hullR a b c d)) ∧ Below w.heap.size w w' := by
  cases hv : vld a b
  · have HF : Hid (hullR a b c d = (0, 0, 1)) := Lib.hid (two_f1 hv)
    clear h
    go_enter Try.func30, Try.ntmps30
    go_wp2_with fail
    refine (valid_any _ _ _).mono ?_
    rintro e w1 ⟨rfl, hb⟩
    obtain ⟨hc, hf⟩ := bcell hb
    have hz0 : w.heap.size < w1.heap.size := by have := hb.size; simp at this; omega
    have hz1 : w.heap.size + 1 < w1.heap.size := by have := hb.size; simp at this; omega
    have hz2 : w.heap.size + 1 + 1 < w1.heap.size := by have := hb.size; simp at this; omega
    simp only [World.size_alloc] at hc hf
    have hB := below3 hb
    go_wp2_with fail
    exact bodyPost_ret (v := R3 (0, 0, 1)) (by simp [results, Try.results30, go_sem, hc, hf, hz0, hz1, hz2]) rfl ⟨ret_r3 HF.out, by go_grown⟩
  · have hu : vld c d = false := by rcases h with h | h; (rw [hv] at h; cases h); exact h
    have HF : Hid (hullR a b c d = (0, 0, 1)) := Lib.hid (two_f2 hu)
    clear h
    go_enter Try.func30, Try.ntmps30
    go_wp2_with fail
    refine (valid_any _ _ _).mono ?_
    rintro e w1 ⟨rfl, hb⟩
    obtain ⟨hc, hf⟩ := bcell hb
    have hz0 : w.heap.size < w1.heap.size := by have := hb.size; simp at this; omega
    have hz1 : w.heap.size + 1 < w1.heap.size := by have := hb.size; simp at this; omega
    have hz2 : w.heap.size + 1 + 1 < w1.heap.size := by have := hb.size; simp at this; omega
    simp only [World.size_alloc] at hc hf
    have hB := below3 hb
    go_wp2_with fail
    refine (valid_any _ _ _).mono ?_
    rintro e w2 ⟨rfl, hb2⟩
    obtain ⟨hc2, hf2⟩ := bcell hb2
    have hy0 : w.heap.size < w2.heap.size := by have := hb2.size; omega
    have hy1 : w.heap.size + 1 < w2.heap.size := by have := hb2.size; omega
    have hy2 : w.heap.size + 1 + 1 < w2.heap.size := by have := hb2.size; omega
    have hB2 := hB.trans (hb2.mono (by omega))
    go_wp2_with fail
    exact bodyPost_ret (v := R3 (0, 0, 1)) (by simp [results, Try.results30, go_sem, hc, hf, hz0, hz1, hz2, hc2, hf2, hy0, hy1, hy2]) rfl ⟨ret_r3 HF.out, by go_grown⟩

set_option maxHeartbeats 400000 in
theorem meet_bad (a b c d : Int) (w : World) (h : vld a b = false ∨ vld c d = false) :
    Calls Try.prog 31 #[ivl a b, ivl c d] w fun e w' => e = .returned (R3 (meetR a b c d)) ∧ Below w.heap.size w w' := by
  cases hv : vld a b
  · have HF : Hid (meetR a b c d = (0, 0, 1)) := Lib.hid (two_f1 hv)
    clear h
    go_enter Try.func31, Try.ntmps31
    go_wp2_with fail
    refine (valid_any _ _ _).mono ?_
    rintro e w1 ⟨rfl, hb⟩
    obtain ⟨hc, hf⟩ := bcell hb
    have hz0 : w.heap.size < w1.heap.size := by have := hb.size; simp at this; omega
    have hz1 : w.heap.size + 1 < w1.heap.size := by have := hb.size; simp at this; omega
    have hz2 : w.heap.size + 1 + 1 < w1.heap.size := by have := hb.size; simp at this; omega
    simp only [World.size_alloc] at hc hf
    have hB := below3 hb
    go_wp2_with fail
    exact bodyPost_ret (v := R3 (0, 0, 1)) (by simp [results, Try.results31, go_sem, hc, hf, hz0, hz1, hz2]) rfl ⟨ret_r3 HF.out, by go_grown⟩
  · have hu : vld c d = false := by rcases h with h | h; (rw [hv] at h; cases h); exact h
    have HF : Hid (meetR a b c d = (0, 0, 1)) := Lib.hid (two_f2 hu)
    clear h
    go_enter Try.func31, Try.ntmps31
    go_wp2_with fail
    refine (valid_any _ _ _).mono ?_
    rintro e w1 ⟨rfl, hb⟩
    obtain ⟨hc, hf⟩ := bcell hb
    have hz0 : w.heap.size < w1.heap.size := by have := hb.size; simp at this; omega
    have hz1 : w.heap.size + 1 < w1.heap.size := by have := hb.size; simp at this; omega
    have hz2 : w.heap.size + 1 + 1 < w1.heap.size := by have := hb.size; simp at this; omega
    simp only [World.size_alloc] at hc hf
    have hB := below3 hb
    go_wp2_with fail
    refine (valid_any _ _ _).mono ?_
    rintro e w2 ⟨rfl, hb2⟩
    obtain ⟨hc2, hf2⟩ := bcell hb2
    have hy0 : w.heap.size < w2.heap.size := by have := hb2.size; omega
    have hy1 : w.heap.size + 1 < w2.heap.size := by have := hb2.size; omega
    have hy2 : w.heap.size + 1 + 1 < w2.heap.size := by have := hb2.size; omega
    have hB2 := hB.trans (hb2.mono (by omega))
    go_wp2_with fail
    exact bodyPost_ret (v := R3 (0, 0, 1)) (by simp [results, Try.results31, go_sem, hc, hf, hz0, hz1, hz2, hc2, hf2, hy0, hy1, hy2]) rfl ⟨ret_r3 HF.out, by go_grown⟩

set_option maxHeartbeats 400000 in
theorem rhull_bad (a b c d : Int) (w : World) (h : vld a b = false ∨ vld c d = false) :
    Calls Try.prog 41 #[ivl a b, ivl c d] w fun e w' => e = .returned (R3 (hullR a b c d)) ∧ Below w.heap.size w w' := by
  cases hv : vld a b
  · have HF : Hid (hullR a b c d = (0, 0, 1)) := Lib.hid (two_f1 hv)
    clear h
    go_enter Try.func41, Try.ntmps41
    go_wp2_with fail
    refine (rvalid_any _ _ _).mono ?_
    rintro e w1 ⟨rfl, hb⟩
    obtain ⟨hc, hf⟩ := bcell hb
    have hz0 : w.heap.size < w1.heap.size := by have := hb.size; simp at this; omega
    have hz1 : w.heap.size + 1 < w1.heap.size := by have := hb.size; simp at this; omega
    have hz2 : w.heap.size + 1 + 1 < w1.heap.size := by have := hb.size; simp at this; omega
    simp only [World.size_alloc] at hc hf
    have hB := below3 hb
    go_wp2_with fail
    exact bodyPost_ret (v := R3 (0, 0, 1)) (by simp [results, Try.results41, go_sem, hc, hf, hz0, hz1, hz2]) rfl ⟨ret_r3 HF.out, by go_grown⟩
  · have hu : vld c d = false := by rcases h with h | h; (rw [hv] at h; cases h); exact h
    have HF : Hid (hullR a b c d = (0, 0, 1)) := Lib.hid (two_f2 hu)
    clear h
    go_enter Try.func41, Try.ntmps41
    go_wp2_with fail
    refine (rvalid_any _ _ _).mono ?_
    rintro e w1 ⟨rfl, hb⟩
    obtain ⟨hc, hf⟩ := bcell hb
    have hz0 : w.heap.size < w1.heap.size := by have := hb.size; simp at this; omega
    have hz1 : w.heap.size + 1 < w1.heap.size := by have := hb.size; simp at this; omega
    have hz2 : w.heap.size + 1 + 1 < w1.heap.size := by have := hb.size; simp at this; omega
    simp only [World.size_alloc] at hc hf
    have hB := below3 hb
    go_wp2_with fail
    refine (rvalid_any _ _ _).mono ?_
    rintro e w2 ⟨rfl, hb2⟩
    obtain ⟨hc2, hf2⟩ := bcell hb2
    have hy0 : w.heap.size < w2.heap.size := by have := hb2.size; omega
    have hy1 : w.heap.size + 1 < w2.heap.size := by have := hb2.size; omega
    have hy2 : w.heap.size + 1 + 1 < w2.heap.size := by have := hb2.size; omega
    have hB2 := hB.trans (hb2.mono (by omega))
    go_wp2_with fail
    exact bodyPost_ret (v := R3 (0, 0, 1)) (by simp [results, Try.results41, go_sem, hc, hf, hz0, hz1, hz2, hc2, hf2, hy0, hy1, hy2]) rfl ⟨ret_r3 HF.out, by go_grown⟩

set_option maxHeartbeats 400000 in
theorem rmeet_bad (a b c d : Int) (w : World) (h : vld a b = false ∨ vld c d = false) :
    Calls Try.prog 42 #[ivl a b, ivl c d] w fun e w' => e = .returned (R3 (meetR a b c d)) ∧ Below w.heap.size w w' := by
  cases hv : vld a b
  · have HF : Hid (meetR a b c d = (0, 0, 1)) := Lib.hid (two_f1 hv)
    clear h
    go_enter Try.func42, Try.ntmps42
    go_wp2_with fail
    refine (rvalid_any _ _ _).mono ?_
    rintro e w1 ⟨rfl, hb⟩
    obtain ⟨hc, hf⟩ := bcell hb
    have hz0 : w.heap.size < w1.heap.size := by have := hb.size; simp at this; omega
    have hz1 : w.heap.size + 1 < w1.heap.size := by have := hb.size; simp at this; omega
    have hz2 : w.heap.size + 1 + 1 < w1.heap.size := by have := hb.size; simp at this; omega
    simp only [World.size_alloc] at hc hf
    have hB := below3 hb
    go_wp2_with fail
    exact bodyPost_ret (v := R3 (0, 0, 1)) (by simp [results, Try.results42, go_sem, hc, hf, hz0, hz1, hz2]) rfl ⟨ret_r3 HF.out, by go_grown⟩
  · have hu : vld c d = false := by rcases h with h | h; (rw [hv] at h; cases h); exact h
    have HF : Hid (meetR a b c d = (0, 0, 1)) := Lib.hid (two_f2 hu)
    clear h
    go_enter Try.func42, Try.ntmps42
    go_wp2_with fail
    refine (rvalid_any _ _ _).mono ?_
    rintro e w1 ⟨rfl, hb⟩
    obtain ⟨hc, hf⟩ := bcell hb
    have hz0 : w.heap.size < w1.heap.size := by have := hb.size; simp at this; omega
    have hz1 : w.heap.size + 1 < w1.heap.size := by have := hb.size; simp at this; omega
    have hz2 : w.heap.size + 1 + 1 < w1.heap.size := by have := hb.size; simp at this; omega
    simp only [World.size_alloc] at hc hf
    have hB := below3 hb
    go_wp2_with fail
    refine (rvalid_any _ _ _).mono ?_
    rintro e w2 ⟨rfl, hb2⟩
    obtain ⟨hc2, hf2⟩ := bcell hb2
    have hy0 : w.heap.size < w2.heap.size := by have := hb2.size; omega
    have hy1 : w.heap.size + 1 < w2.heap.size := by have := hb2.size; omega
    have hy2 : w.heap.size + 1 + 1 < w2.heap.size := by have := hb2.size; omega
    have hB2 := hB.trans (hb2.mono (by omega))
    go_wp2_with fail
    exact bodyPost_ret (v := R3 (0, 0, 1)) (by simp [results, Try.results42, go_sem, hc, hf, hz0, hz1, hz2, hc2, hf2, hy0, hy1, hy2]) rfl ⟨ret_r3 HF.out, by go_grown⟩

set_option maxHeartbeats 400000 in
theorem hull_0 (a b c d : Int) (w : World) (hv : vld a b = true) (hu : vld c d = true) (h1 : c < a) (h2 : b < d) :
    Calls Try.prog 30 #[ivl a b, ivl c d] w fun e w' => e = .returned (R3 (hullR a b c d)) ∧ Below w.heap.size w w' := by
  have HF : Hid (hullR a b c d = (c, d, 0)) := Lib.hid (by unfold hullR; rw [two_t hv hu, if_pos h1, if_pos h2])
  go_enter Try.func30, Try.ntmps30
  go_wp2_with fail
  refine (valid_any _ _ _).mono ?_
  rintro e w1 ⟨rfl, hb⟩
  obtain ⟨hc, hf⟩ := bcell hb
  have hz0 : w.heap.size < w1.heap.size := by have := hb.size; simp at this; omega
  have hz1 : w.heap.size + 1 < w1.heap.size := by have := hb.size; simp at this; omega
  have hz2 : w.heap.size + 1 + 1 < w1.heap.size := by have := hb.size; simp at this; omega
  simp only [World.size_alloc] at hc hf
  have hB := below3 hb
  go_wp2_with fail
  refine (valid_any _ _ _).mono ?_
  rintro e w2 ⟨rfl, hb2⟩
  obtain ⟨hc2, hf2⟩ := bcell hb2
  have hy0 : w.heap.size < w2.heap.size := by have := hb2.size; omega
  have hy1 : w.heap.size + 1 < w2.heap.size := by have := hb2.size; omega
  have hy2 : w.heap.size + 1 + 1 < w2.heap.size := by have := hb2.size; omega
  have hB2 := hB.trans (hb2.mono (by omega))
  go_wp2_with fail
  refine bodyPost_ret (v := R3 (c, d, 0)) (by simp [results, Try.results30, go_sem, hc, hf, hz0, hz1, hz2, hc2, hf2, hy0, hy1, hy2]) rfl ⟨ret_r3 HF.out, ?_⟩
  repeat (first | exact hB2 | refine Below.setCell ?_ (by simp; try omega) _ | refine bdn ?_ | refine Below.alloc ?_ (by simp; try omega) _)

set_option maxHeartbeats 400000 in
theorem hull_1 (a b c d : Int) (w : World) (hv : vld a b = true) (hu : vld c d = true) (h1 : c < a) (h2 : ¬ b < d) :
    Calls Try.prog 30 #[ivl a b, ivl c d] w fun e w' => e = .returned (R3 (hullR a b c d)) ∧ Below w.heap.size w w' := by
  have HF : Hid (hullR a b c d = (c, b, 0)) := Lib.hid (by unfold hullR; rw [two_t hv hu, if_pos h1, if_neg h2])
  go_enter Try.func30, Try.ntmps30
  go_wp2_with fail
  refine (valid_any _ _ _).mono ?_
  rintro e w1 ⟨rfl, hb⟩
  obtain ⟨hc, hf⟩ := bcell hb
  have hz0 : w.heap.size < w1.heap.size := by have := hb.size; simp at this; omega
  have hz1 : w.heap.size + 1 < w1.heap.size := by have := hb.size; simp at this; omega
  have hz2 : w.heap.size + 1 + 1 < w1.heap.size := by have := hb.size; simp at this; omega
  simp only [World.size_alloc] at hc hf
  have hB := below3 hb
  go_wp2_with fail
  refine (valid_any _ _ _).mono ?_
  rintro e w2 ⟨rfl, hb2⟩
  obtain ⟨hc2, hf2⟩ := bcell hb2
  have hy0 : w.heap.size < w2.heap.size := by have := hb2.size; omega
  have hy1 : w.heap.size + 1 < w2.heap.size := by have := hb2.size; omega
  have hy2 : w.heap.size + 1 + 1 < w2.heap.size := by have := hb2.size; omega
  have hB2 := hB.trans (hb2.mono (by omega))
  go_wp2_with fail
  refine bodyPost_ret (v := R3 (c, b, 0)) (by simp [results, Try.results30, go_sem, hc, hf, hz0, hz1, hz2, hc2, hf2, hy0, hy1, hy2]) rfl ⟨ret_r3 HF.out, ?_⟩
  repeat (first | exact hB2 | refine Below.setCell ?_ (by simp; try omega) _ | refine bdn ?_ | refine Below.alloc ?_ (by simp; try omega) _)

set_option maxHeartbeats 400000 in
theorem hull_2 (a b c d : Int) (w : World) (hv : vld a b = true) (hu : vld c d = true) (h1 : ¬ c < a) (h2 : b < d) :
    Calls Try.prog 30 #[ivl a b, ivl c d] w fun e w' => e = .returned (R3 (hullR a b c d)) ∧ Below w.heap.size w w' := by
  have HF : Hid (hullR a b c d = (a, d, 0)) := Lib.hid (by unfold hullR; rw [two_t hv hu, if_neg h1, if_pos h2])
  go_enter Try.func30, Try.ntmps30
  go_wp2_with fail
  refine (valid_any _ _ _).mono ?_
  rintro e w1 ⟨rfl, hb⟩
  obtain ⟨hc, hf⟩ := bcell hb
  have hz0 : w.heap.size < w1.heap.size := by have := hb.size; simp at this; omega
  have hz1 : w.heap.size + 1 < w1.heap.size := by have := hb.size; simp at this; omega
  have hz2 : w.heap.size + 1 + 1 < w1.heap.size := by have := hb.size; simp at this; omega
  simp only [World.size_alloc] at hc hf
  have hB := below3 hb
  go_wp2_with fail
  refine (valid_any _ _ _).mono ?_
  rintro e w2 ⟨rfl, hb2⟩
  obtain ⟨hc2, hf2⟩ := bcell hb2
  have hy0 : w.heap.size < w2.heap.size := by have := hb2.size; omega
  have hy1 : w.heap.size + 1 < w2.heap.size := by have := hb2.size; omega
  have hy2 : w.heap.size + 1 + 1 < w2.heap.size := by have := hb2.size; omega
  have hB2 := hB.trans (hb2.mono (by omega))
  go_wp2_with fail
  refine bodyPost_ret (v := R3 (a, d, 0)) (by simp [results, Try.results30, go_sem, hc, hf, hz0, hz1, hz2, hc2, hf2, hy0, hy1, hy2]) rfl ⟨ret_r3 HF.out, ?_⟩
  repeat (first | exact hB2 | refine Below.setCell ?_ (by simp; try omega) _ | refine bdn ?_ | refine Below.alloc ?_ (by simp; try omega) _)

set_option maxHeartbeats 400000 in
theorem hull_3 (a b c d : Int) (w : World) (hv : vld a b = true) (hu : vld c d = true) (h1 : ¬ c < a) (h2 : ¬ b < d) :
    Calls Try.prog 30 #[ivl a b, ivl c d] w fun e w' => e = .returned (R3 (hullR a b c d)) ∧ Below w.heap.size w w' := by
  have HF : Hid (hullR a b c d = (a, b, 0)) := Lib.hid (by unfold hullR; rw [two_t hv hu, if_neg h1, if_neg h2])
  go_enter Try.func30, Try.ntmps30
  go_wp2_with fail
  refine (valid_any _ _ _).mono ?_
  rintro e w1 ⟨rfl, hb⟩
  obtain ⟨hc, hf⟩ := bcell hb
  have hz0 : w.heap.size < w1.heap.size := by have := hb.size; simp at this; omega
  have hz1 : w.heap.size + 1 < w1.heap.size := by have := hb.size; simp at this; omega
  have hz2 : w.heap.size + 1 + 1 < w1.heap.size := by have := hb.size; simp at this; omega
  simp only [World.size_alloc] at hc hf
  have hB := below3 hb
  go_wp2_with fail
  refine (valid_any _ _ _).mono ?_
  rintro e w2 ⟨rfl, hb2⟩
  obtain ⟨hc2, hf2⟩ := bcell hb2
  have hy0 : w.heap.size < w2.heap.size := by have := hb2.size; omega
  have hy1 : w.heap.size + 1 < w2.heap.size := by have := hb2.size; omega
  have hy2 : w.heap.size + 1 + 1 < w2.heap.size := by have := hb2.size; omega
  have hB2 := hB.trans (hb2.mono (by omega))
  go_wp2_with fail
  refine bodyPost_ret (v := R3 (a, b, 0)) (by simp [results, Try.results30, go_sem, hc, hf, hz0, hz1, hz2, hc2, hf2, hy0, hy1, hy2]) rfl ⟨ret_r3 HF.out, ?_⟩
  repeat (first | exact hB2 | refine Below.setCell ?_ (by simp; try omega) _ | refine bdn ?_ | refine Below.alloc ?_ (by simp; try omega) _)

theorem hull_any (a b c d : Int) (w : World) :
    Calls Try.prog 30 #[ivl a b, ivl c d] w fun e w' => e = .returned (R3 (hullR a b c d)) ∧ Below w.heap.size w w' := by
  cases hv : vld a b
  · exact hull_bad a b c d w (Or.inl hv)
  cases hu : vld c d
  · exact hull_bad a b c d w (Or.inr hu)
  by_cases h1 : c < a
  · by_cases h2 : b < d
    · exact hull_0 a b c d w hv hu h1 h2
    · exact hull_1 a b c d w hv hu h1 h2
  · by_cases h2 : b < d
    · exact hull_2 a b c d w hv hu h1 h2
    · exact hull_3 a b c d w hv hu h1 h2

set_option maxHeartbeats 400000 in
theorem meet_0 (a b c d : Int) (w : World) (hv : vld a b = true) (hu : vld c d = true) (h1 : a < c) (h2 : d < b) (h3 : ¬ d < c) :
    Calls Try.prog 31 #[ivl a b, ivl c d] w fun e w' => e = .returned (R3 (meetR a b c d)) ∧ Below w.heap.size w w' := by
  have HF : Hid (meetR a b c d = (c, d, 0)) := Lib.hid (by unfold meetR; rw [two_t hv hu, if_pos h1, if_pos h2, if_neg h3])
  go_enter Try.func31, Try.ntmps31
  go_wp2_with fail
  refine (valid_any _ _ _).mono ?_
  rintro e w1 ⟨rfl, hb⟩
  obtain ⟨hc, hf⟩ := bcell hb
  have hz0 : w.heap.size < w1.heap.size := by have := hb.size; simp at this; omega
  have hz1 : w.heap.size + 1 < w1.heap.size := by have := hb.size; simp at this; omega
  have hz2 : w.heap.size + 1 + 1 < w1.heap.size := by have := hb.size; simp at this; omega
  simp only [World.size_alloc] at hc hf
  have hB := below3 hb
  go_wp2_with fail
  refine (valid_any _ _ _).mono ?_
  rintro e w2 ⟨rfl, hb2⟩
  obtain ⟨hc2, hf2⟩ := bcell hb2
  have hy0 : w.heap.size < w2.heap.size := by have := hb2.size; omega
  have hy1 : w.heap.size + 1 < w2.heap.size := by have := hb2.size; omega
  have hy2 : w.heap.size + 1 + 1 < w2.heap.size := by have := hb2.size; omega
  have hB2 := hB.trans (hb2.mono (by omega))
  go_wp2_with fail
  go_quiet (fail)
  go_wp2_with fail
  refine bodyPost_ret (v := R3 (c, d, 0)) (by simp [results, Try.results31, go_sem, hc, hf, hz0, hz1, hz2, hc2, hf2, hy0, hy1, hy2]) rfl ⟨ret_r3 HF.out, ?_⟩
  repeat (first | exact hB2 | refine Below.setCell ?_ (by simp; try omega) _ | refine bdn ?_ | refine Below.alloc ?_ (by simp; try omega) _)

set_option maxHeartbeats 400000 in
theorem meet_1 (a b c d : Int) (w : World) (hv : vld a b = true) (hu : vld c d = true) (h1 : a < c) (h2 : d < b) (h3 : d < c) :
    Calls Try.prog 31 #[ivl a b, ivl c d] w fun e w' => e = .returned (R3 (meetR a b c d)) ∧ Below w.heap.size w w' := by
  have HF : Hid (meetR a b c d = (0, 0, 15)) := Lib.hid (by unfold meetR; rw [two_t hv hu, if_pos h1, if_pos h2, if_pos h3])
  go_enter Try.func31, Try.ntmps31
  go_wp2_with fail
  refine (valid_any _ _ _).mono ?_
  rintro e w1 ⟨rfl, hb⟩
  obtain ⟨hc, hf⟩ := bcell hb
  have hz0 : w.heap.size < w1.heap.size := by have := hb.size; simp at this; omega
  have hz1 : w.heap.size + 1 < w1.heap.size := by have := hb.size; simp at this; omega
  have hz2 : w.heap.size + 1 + 1 < w1.heap.size := by have := hb.size; simp at this; omega
  simp only [World.size_alloc] at hc hf
  have hB := below3 hb
  go_wp2_with fail
  refine (valid_any _ _ _).mono ?_
  rintro e w2 ⟨rfl, hb2⟩
  obtain ⟨hc2, hf2⟩ := bcell hb2
  have hy0 : w.heap.size < w2.heap.size := by have := hb2.size; omega
  have hy1 : w.heap.size + 1 < w2.heap.size := by have := hb2.size; omega
  have hy2 : w.heap.size + 1 + 1 < w2.heap.size := by have := hb2.size; omega
  have hB2 := hB.trans (hb2.mono (by omega))
  go_wp2_with fail
  go_quiet (fail)
  go_wp2_with fail
  refine bodyPost_ret (v := R3 (0, 0, 15)) (by simp [results, Try.results31, go_sem, hc, hf, hz0, hz1, hz2, hc2, hf2, hy0, hy1, hy2]) rfl ⟨ret_r3 HF.out, ?_⟩
  repeat (first | exact hB2 | refine Below.setCell ?_ (by simp; try omega) _ | refine bdn ?_ | refine Below.alloc ?_ (by simp; try omega) _)

set_option maxHeartbeats 400000 in
theorem meet_2 (a b c d : Int) (w : World) (hv : vld a b = true) (hu : vld c d = true) (h1 : a < c) (h2 : ¬ d < b) (h3 : ¬ b < c) :
    Calls Try.prog 31 #[ivl a b, ivl c d] w fun e w' => e = .returned (R3 (meetR a b c d)) ∧ Below w.heap.size w w' := by
  have HF : Hid (meetR a b c d = (c, b, 0)) := Lib.hid (by unfold meetR; rw [two_t hv hu, if_pos h1, if_neg h2, if_neg h3])
  go_enter Try.func31, Try.ntmps31
  go_wp2_with fail
  refine (valid_any _ _ _).mono ?_
  rintro e w1 ⟨rfl, hb⟩
  obtain ⟨hc, hf⟩ := bcell hb
  have hz0 : w.heap.size < w1.heap.size := by have := hb.size; simp at this; omega
  have hz1 : w.heap.size + 1 < w1.heap.size := by have := hb.size; simp at this; omega
  have hz2 : w.heap.size + 1 + 1 < w1.heap.size := by have := hb.size; simp at this; omega
  simp only [World.size_alloc] at hc hf
  have hB := below3 hb
  go_wp2_with fail
  refine (valid_any _ _ _).mono ?_
  rintro e w2 ⟨rfl, hb2⟩
  obtain ⟨hc2, hf2⟩ := bcell hb2
  have hy0 : w.heap.size < w2.heap.size := by have := hb2.size; omega
  have hy1 : w.heap.size + 1 < w2.heap.size := by have := hb2.size; omega
  have hy2 : w.heap.size + 1 + 1 < w2.heap.size := by have := hb2.size; omega
  have hB2 := hB.trans (hb2.mono (by omega))
  go_wp2_with fail
  go_quiet (fail)
  go_wp2_with fail
  refine bodyPost_ret (v := R3 (c, b, 0)) (by simp [results, Try.results31, go_sem, hc, hf, hz0, hz1, hz2, hc2, hf2, hy0, hy1, hy2]) rfl ⟨ret_r3 HF.out, ?_⟩
  repeat (first | exact hB2 | refine Below.setCell ?_ (by simp; try omega) _ | refine bdn ?_ | refine Below.alloc ?_ (by simp; try omega) _)

set_option maxHeartbeats 400000 in
theorem meet_3 (a b c d : Int) (w : World) (hv : vld a b = true) (hu : vld c d = true) (h1 : a < c) (h2 : ¬ d < b) (h3 : b < c) :
    Calls Try.prog 31 #[ivl a b, ivl c d] w fun e w' => e = .returned (R3 (meetR a b c d)) ∧ Below w.heap.size w w' := by
  have HF : Hid (meetR a b c d = (0, 0, 15)) := Lib.hid (by unfold meetR; rw [two_t hv hu, if_pos h1, if_neg h2, if_pos h3])
  go_enter Try.func31, Try.ntmps31
  go_wp2_with fail
  refine (valid_any _ _ _).mono ?_
  rintro e w1 ⟨rfl, hb⟩
  obtain ⟨hc, hf⟩ := bcell hb
  have hz0 : w.heap.size < w1.heap.size := by have := hb.size; simp at this; omega
  have hz1 : w.heap.size + 1 < w1.heap.size := by have := hb.size; simp at this; omega
  have hz2 : w.heap.size + 1 + 1 < w1.heap.size := by have := hb.size; simp at this; omega
  simp only [World.size_alloc] at hc hf
  have hB := below3 hb
  go_wp2_with fail
  refine (valid_any _ _ _).mono ?_
  rintro e w2 ⟨rfl, hb2⟩
  obtain ⟨hc2, hf2⟩ := bcell hb2
  have hy0 : w.heap.size < w2.heap.size := by have := hb2.size; omega
  have hy1 : w.heap.size + 1 < w2.heap.size := by have := hb2.size; omega
  have hy2 : w.heap.size + 1 + 1 < w2.heap.size := by have := hb2.size; omega
  have hB2 := hB.trans (hb2.mono (by omega))
  go_wp2_with fail
  go_quiet (fail)
  go_wp2_with fail
  refine bodyPost_ret (v := R3 (0, 0, 15)) (by simp [results, Try.results31, go_sem, hc, hf, hz0, hz1, hz2, hc2, hf2, hy0, hy1, hy2]) rfl ⟨ret_r3 HF.out, ?_⟩
  repeat (first | exact hB2 | refine Below.setCell ?_ (by simp; try omega) _ | refine bdn ?_ | refine Below.alloc ?_ (by simp; try omega) _)

set_option maxHeartbeats 400000 in
theorem meet_4 (a b c d : Int) (w : World) (hv : vld a b = true) (hu : vld c d = true) (h1 : ¬ a < c) (h2 : d < b) (h3 : ¬ d < a) :
    Calls Try.prog 31 #[ivl a b, ivl c d] w fun e w' => e = .returned (R3 (meetR a b c d)) ∧ Below w.heap.size w w' := by
  have HF : Hid (meetR a b c d = (a, d, 0)) := Lib.hid (by unfold meetR; rw [two_t hv hu, if_neg h1, if_pos h2, if_neg h3])
  go_enter Try.func31, Try.ntmps31
  go_wp2_with fail
  refine (valid_any _ _ _).mono ?_
  rintro e w1 ⟨rfl, hb⟩
  obtain ⟨hc, hf⟩ := bcell hb
  have hz0 : w.heap.size < w1.heap.size := by have := hb.size; simp at this; omega
  have hz1 : w.heap.size + 1 < w1.heap.size := by have := hb.size; simp at this; omega
  have hz2 : w.heap.size + 1 + 1 < w1.heap.size := by have := hb.size; simp at this; omega
  simp only [World.size_alloc] at hc hf
  have hB := below3 hb
  go_wp2_with fail
  refine (valid_any _ _ _).mono ?_
  rintro e w2 ⟨rfl, hb2⟩
  obtain ⟨hc2, hf2⟩ := bcell hb2
  have hy0 : w.heap.size < w2.heap.size := by have := hb2.size; omega
  have hy1 : w.heap.size + 1 < w2.heap.size := by have := hb2.size; omega
  have hy2 : w.heap.size + 1 + 1 < w2.heap.size := by have := hb2.size; omega
  have hB2 := hB.trans (hb2.mono (by omega))
  go_wp2_with fail
  go_quiet (fail)
  go_wp2_with fail
  refine bodyPost_ret (v := R3 (a, d, 0)) (by simp [results, Try.results31, go_sem, hc, hf, hz0, hz1, hz2, hc2, hf2, hy0, hy1, hy2]) rfl ⟨ret_r3 HF.out, ?_⟩
  repeat (first | exact hB2 | refine Below.setCell ?_ (by simp; try omega) _ | refine bdn ?_ | refine Below.alloc ?_ (by simp; try omega) _)

set_option maxHeartbeats 400000 in
theorem meet_5 (a b c d : Int) (w : World) (hv : vld a b = true) (hu : vld c d = true) (h1 : ¬ a < c) (h2 : d < b) (h3 : d < a) :
    Calls Try.prog 31 #[ivl a b, ivl c d] w fun e w' => e = .returned (R3 (meetR a b c d)) ∧ Below w.heap.size w w' := by
  have HF : Hid (meetR a b c d = (0, 0, 15)) := Lib.hid (by unfold meetR; rw [two_t hv hu, if_neg h1, if_pos h2, if_pos h3])
  go_enter Try.func31, Try.ntmps31
  go_wp2_with fail
  refine (valid_any _ _ _).mono ?_
  rintro e w1 ⟨rfl, hb⟩
  obtain ⟨hc, hf⟩ := bcell hb
  have hz0 : w.heap.size < w1.heap.size := by have := hb.size; simp at this; omega
  have hz1 : w.heap.size + 1 < w1.heap.size := by have := hb.size; simp at this; omega
  have hz2 : w.heap.size + 1 + 1 < w1.heap.size := by have := hb.size; simp at this; omega
  simp only [World.size_alloc] at hc hf
  have hB := below3 hb
  go_wp2_with fail
  refine (valid_any _ _ _).mono ?_
  rintro e w2 ⟨rfl, hb2⟩
  obtain ⟨hc2, hf2⟩ := bcell hb2
  have hy0 : w.heap.size < w2.heap.size := by have := hb2.size; omega
  have hy1 : w.heap.size + 1 < w2.heap.size := by have := hb2.size; omega
  have hy2 : w.heap.size + 1 + 1 < w2.heap.size := by have := hb2.size; omega
  have hB2 := hB.trans (hb2.mono (by omega))
  go_wp2_with fail
  go_quiet (fail)
  go_wp2_with fail
  refine bodyPost_ret (v := R3 (0, 0, 15)) (by simp [results, Try.results31, go_sem, hc, hf, hz0, hz1, hz2, hc2, hf2, hy0, hy1, hy2]) rfl ⟨ret_r3 HF.out, ?_⟩
  repeat (first | exact hB2 | refine Below.setCell ?_ (by simp; try omega) _ | refine bdn ?_ | refine Below.alloc ?_ (by simp; try omega) _)

set_option maxHeartbeats 400000 in
theorem meet_6 (a b c d : Int) (w : World) (hv : vld a b = true) (hu : vld c d = true) (h1 : ¬ a < c) (h2 : ¬ d < b) (h3 : ¬ b < a) :
    Calls Try.prog 31 #[ivl a b, ivl c d] w fun e w' => e = .returned (R3 (meetR a b c d)) ∧ Below w.heap.size w w' := by
  have HF : Hid (meetR a b c d = (a, b, 0)) := Lib.hid (by unfold meetR; rw [two_t hv hu, if_neg h1, if_neg h2, if_neg h3])
  go_enter Try.func31, Try.ntmps31
  go_wp2_with fail
  refine (valid_any _ _ _).mono ?_
  rintro e w1 ⟨rfl, hb⟩
  obtain ⟨hc, hf⟩ := bcell hb
  have hz0 : w.heap.size < w1.heap.size := by have := hb.size; simp at this; omega
  have hz1 : w.heap.size + 1 < w1.heap.size := by have := hb.size; simp at this; omega
  have hz2 : w.heap.size + 1 + 1 < w1.heap.size := by have := hb.size; simp at this; omega
  simp only [World.size_alloc] at hc hf
  have hB := below3 hb
  go_wp2_with fail
  refine (valid_any _ _ _).mono ?_
  rintro e w2 ⟨rfl, hb2⟩
  obtain ⟨hc2, hf2⟩ := bcell hb2
  have hy0 : w.heap.size < w2.heap.size := by have := hb2.size; omega
  have hy1 : w.heap.size + 1 < w2.heap.size := by have := hb2.size; omega
  have hy2 : w.heap.size + 1 + 1 < w2.heap.size := by have := hb2.size; omega
  have hB2 := hB.trans (hb2.mono (by omega))
  go_wp2_with fail
  go_quiet (fail)
  go_wp2_with fail
  refine bodyPost_ret (v := R3 (a, b, 0)) (by simp [results, Try.results31, go_sem, hc, hf, hz0, hz1, hz2, hc2, hf2, hy0, hy1, hy2]) rfl ⟨ret_r3 HF.out, ?_⟩
  repeat (first | exact hB2 | refine Below.setCell ?_ (by simp; try omega) _ | refine bdn ?_ | refine Below.alloc ?_ (by simp; try omega) _)

set_option maxHeartbeats 400000 in
theorem meet_7 (a b c d : Int) (w : World) (hv : vld a b = true) (hu : vld c d = true) (h1 : ¬ a < c) (h2 : ¬ d < b) (h3 : b < a) :
    Calls Try.prog 31 #[ivl a b, ivl c d] w fun e w' => e = .returned (R3 (meetR a b c d)) ∧ Below w.heap.size w w' := by
  have HF : Hid (meetR a b c d = (0, 0, 15)) := Lib.hid (by unfold meetR; rw [two_t hv hu, if_neg h1, if_neg h2, if_pos h3])
  go_enter Try.func31, Try.ntmps31
  go_wp2_with fail
  refine (valid_any _ _ _).mono ?_
  rintro e w1 ⟨rfl, hb⟩
  obtain ⟨hc, hf⟩ := bcell hb
  have hz0 : w.heap.size < w1.heap.size := by have := hb.size; simp at this; omega
  have hz1 : w.heap.size + 1 < w1.heap.size := by have := hb.size; simp at this; omega
  have hz2 : w.heap.size + 1 + 1 < w1.heap.size := by have := hb.size; simp at this; omega
  simp only [World.size_alloc] at hc hf
  have hB := below3 hb
  go_wp2_with fail
  refine (valid_any _ _ _).mono ?_
  rintro e w2 ⟨rfl, hb2⟩
  obtain ⟨hc2, hf2⟩ := bcell hb2
  have hy0 : w.heap.size < w2.heap.size := by have := hb2.size; omega
  have hy1 : w.heap.size + 1 < w2.heap.size := by have := hb2.size; omega
  have hy2 : w.heap.size + 1 + 1 < w2.heap.size := by have := hb2.size; omega
  have hB2 := hB.trans (hb2.mono (by omega))
  go_wp2_with fail
  go_quiet (fail)
  go_wp2_with fail
  refine bodyPost_ret (v := R3 (0, 0, 15)) (by simp [results, Try.results31, go_sem, hc, hf, hz0, hz1, hz2, hc2, hf2, hy0, hy1, hy2]) rfl ⟨ret_r3 HF.out, ?_⟩
  repeat (first | exact hB2 | refine Below.setCell ?_ (by simp; try omega) _ | refine bdn ?_ | refine Below.alloc ?_ (by simp; try omega) _)

theorem meet_any (a b c d : Int) (w : World) :
    Calls Try.prog 31 #[ivl a b, ivl c d] w fun e w' => e = .returned (R3 (meetR a b c d)) ∧ Below w.heap.size w w' := by
  cases hv : vld a b
  · exact meet_bad a b c d w (Or.inl hv)
  cases hu : vld c d
  · exact meet_bad a b c d w (Or.inr hu)
  by_cases h1 : a < c
  · by_cases h2 : d < b
    · by_cases h3 : d < c
      · exact meet_1 a b c d w hv hu h1 h2 h3
      · exact meet_0 a b c d w hv hu h1 h2 h3
    · by_cases h3 : b < c
      · exact meet_3 a b c d w hv hu h1 h2 h3
      · exact meet_2 a b c d w hv hu h1 h2 h3
  · by_cases h2 : d < b
    · by_cases h3 : d < a
      · exact meet_5 a b c d w hv hu h1 h2 h3
      · exact meet_4 a b c d w hv hu h1 h2 h3
    · by_cases h3 : b < a
      · exact meet_7 a b c d w hv hu h1 h2 h3
      · exact meet_6 a b c d w hv hu h1 h2 h3

set_option maxHeartbeats 400000 in
theorem rhull_0 (a b c d : Int) (w : World) (hv : vld a b = true) (hu : vld c d = true) (h1 : c < a) (h2 : b < d) :
    Calls Try.prog 41 #[ivl a b, ivl c d] w fun e w' => e = .returned (R3 (hullR a b c d)) ∧ Below w.heap.size w w' := by
  have HF : Hid (hullR a b c d = (c, d, 0)) := Lib.hid (by unfold hullR; rw [two_t hv hu, if_pos h1, if_pos h2])
  go_enter Try.func41, Try.ntmps41
  go_wp2_with fail
  refine (rvalid_any _ _ _).mono ?_
  rintro e w1 ⟨rfl, hb⟩
  obtain ⟨hc, hf⟩ := bcell hb
  have hz0 : w.heap.size < w1.heap.size := by have := hb.size; simp at this; omega
  have hz1 : w.heap.size + 1 < w1.heap.size := by have := hb.size; simp at this; omega
  have hz2 : w.heap.size + 1 + 1 < w1.heap.size := by have := hb.size; simp at this; omega
  simp only [World.size_alloc] at hc hf
  have hB := below3 hb
  go_wp2_with fail
  refine (rvalid_any _ _ _).mono ?_
  rintro e w2 ⟨rfl, hb2⟩
  obtain ⟨hc2, hf2⟩ := bcell hb2
  have hy0 : w.heap.size < w2.heap.size := by have := hb2.size; omega
  have hy1 : w.heap.size + 1 < w2.heap.size := by have := hb2.size; omega
  have hy2 : w.heap.size + 1 + 1 < w2.heap.size := by have := hb2.size; omega
  have hB2 := hB.trans (hb2.mono (by omega))
  go_wp2_with fail
  refine bodyPost_ret (v := R3 (c, d, 0)) (by simp [results, Try.results41, go_sem, hc, hf, hz0, hz1, hz2, hc2, hf2, hy0, hy1, hy2]) rfl ⟨ret_r3 HF.out, ?_⟩
  repeat (first | exact hB2 | refine Below.setCell ?_ (by simp; try omega) _ | refine bdn ?_ | refine Below.alloc ?_ (by simp; try omega) _)

set_option maxHeartbeats 400000 in
theorem rhull_1 (a b c d : Int) (w : World) (hv : vld a b = true) (hu : vld c d = true) (h1 : c < a) (h2 : ¬ b < d) :
    Calls Try.prog 41 #[ivl a b, ivl c d] w fun e w' => e = .returned (R3 (hullR a b c d)) ∧ Below w.heap.size w w' := by
  have HF : Hid (hullR a b c d = (c, b, 0)) := Lib.hid (by unfold hullR; rw [two_t hv hu, if_pos h1, if_neg h2])
  go_enter Try.func41, Try.ntmps41
  go_wp2_with fail
  refine (rvalid_any _ _ _).mono ?_
  rintro e w1 ⟨rfl, hb⟩
  obtain ⟨hc, hf⟩ := bcell hb
  have hz0 : w.heap.size < w1.heap.size := by have := hb.size; simp at this; omega
  have hz1 : w.heap.size + 1 < w1.heap.size := by have := hb.size; simp at this; omega
  have hz2 : w.heap.size + 1 + 1 < w1.heap.size := by have := hb.size; simp at this; omega
  simp only [World.size_alloc] at hc hf
  have hB := below3 hb
  go_wp2_with fail
  refine (rvalid_any _ _ _).mono ?_
  rintro e w2 ⟨rfl, hb2⟩
  obtain ⟨hc2, hf2⟩ := bcell hb2
  have hy0 : w.heap.size < w2.heap.size := by have := hb2.size; omega
  have hy1 : w.heap.size + 1 < w2.heap.size := by have := hb2.size; omega
  have hy2 : w.heap.size + 1 + 1 < w2.heap.size := by have := hb2.size; omega
  have hB2 := hB.trans (hb2.mono (by omega))
  go_wp2_with fail
  refine bodyPost_ret (v := R3 (c, b, 0)) (by simp [results, Try.results41, go_sem, hc, hf, hz0, hz1, hz2, hc2, hf2, hy0, hy1, hy2]) rfl ⟨ret_r3 HF.out, ?_⟩
  repeat (first | exact hB2 | refine Below.setCell ?_ (by simp; try omega) _ | refine bdn ?_ | refine Below.alloc ?_ (by simp; try omega) _)

set_option maxHeartbeats 400000 in
theorem rhull_2 (a b c d : Int) (w : World) (hv : vld a b = true) (hu : vld c d = true) (h1 : ¬ c < a) (h2 : b < d) :
    Calls Try.prog 41 #[ivl a b, ivl c d] w fun e w' => e = .returned (R3 (hullR a b c d)) ∧ Below w.heap.size w w' := by
  have HF : Hid (hullR a b c d = (a, d, 0)) := Lib.hid (by unfold hullR; rw [two_t hv hu, if_neg h1, if_pos h2])
  go_enter Try.func41, Try.ntmps41
  go_wp2_with fail
  refine (rvalid_any _ _ _).mono ?_
  rintro e w1 ⟨rfl, hb⟩
  obtain ⟨hc, hf⟩ := bcell hb
  have hz0 : w.heap.size < w1.heap.size := by have := hb.size; simp at this; omega
  have hz1 : w.heap.size + 1 < w1.heap.size := by have := hb.size; simp at this; omega
  have hz2 : w.heap.size + 1 + 1 < w1.heap.size := by have := hb.size; simp at this; omega
  simp only [World.size_alloc] at hc hf
  have hB := below3 hb
  go_wp2_with fail
  refine (rvalid_any _ _ _).mono ?_
  rintro e w2 ⟨rfl, hb2⟩
  obtain ⟨hc2, hf2⟩ := bcell hb2
  have hy0 : w.heap.size < w2.heap.size := by have := hb2.size; omega
  have hy1 : w.heap.size + 1 < w2.heap.size := by have := hb2.size; omega
  have hy2 : w.heap.size + 1 + 1 < w2.heap.size := by have := hb2.size; omega
  have hB2 := hB.trans (hb2.mono (by omega))
  go_wp2_with fail
  refine bodyPost_ret (v := R3 (a, d, 0)) (by simp [results, Try.results41, go_sem, hc, hf, hz0, hz1, hz2, hc2, hf2, hy0, hy1, hy2]) rfl ⟨ret_r3 HF.out, ?_⟩
  repeat (first | exact hB2 | refine Below.setCell ?_ (by simp; try omega) _ | refine bdn ?_ | refine Below.alloc ?_ (by simp; try omega) _)

set_option maxHeartbeats 400000 in
theorem rhull_3 (a b c d : Int) (w : World) (hv : vld a b = true) (hu : vld c d = true) (h1 : ¬ c < a) (h2 : ¬ b < d) :
    Calls Try.prog 41 #[ivl a b, ivl c d] w fun e w' => e = .returned (R3 (hullR a b c d)) ∧ Below w.heap.size w w' := by
  have HF : Hid (hullR a b c d = (a, b, 0)) := Lib.hid (by unfold hullR; rw [two_t hv hu, if_neg h1, if_neg h2])
  go_enter Try.func41, Try.ntmps41
  go_wp2_with fail
  refine (rvalid_any _ _ _).mono ?_
  rintro e w1 ⟨rfl, hb⟩
  obtain ⟨hc, hf⟩ := bcell hb
  have hz0 : w.heap.size < w1.heap.size := by have := hb.size; simp at this; omega
  have hz1 : w.heap.size + 1 < w1.heap.size := by have := hb.size; simp at this; omega
  have hz2 : w.heap.size + 1 + 1 < w1.heap.size := by have := hb.size; simp at this; omega
  simp only [World.size_alloc] at hc hf
  have hB := below3 hb
  go_wp2_with fail
  refine (rvalid_any _ _ _).mono ?_
  rintro e w2 ⟨rfl, hb2⟩
  obtain ⟨hc2, hf2⟩ := bcell hb2
  have hy0 : w.heap.size < w2.heap.size := by have := hb2.size; omega
  have hy1 : w.heap.size + 1 < w2.heap.size := by have := hb2.size; omega
  have hy2 : w.heap.size + 1 + 1 < w2.heap.size := by have := hb2.size; omega
  have hB2 := hB.trans (hb2.mono (by omega))
  go_wp2_with fail
  refine bodyPost_ret (v := R3 (a, b, 0)) (by simp [results, Try.results41, go_sem, hc, hf, hz0, hz1, hz2, hc2, hf2, hy0, hy1, hy2]) rfl ⟨ret_r3 HF.out, ?_⟩
  repeat (first | exact hB2 | refine Below.setCell ?_ (by simp; try omega) _ | refine bdn ?_ | refine Below.alloc ?_ (by simp; try omega) _)

theorem rhull_any (a b c d : Int) (w : World) :
    Calls Try.prog 41 #[ivl a b, ivl c d] w fun e w' => e = .returned (R3 (hullR a b c d)) ∧ Below w.heap.size w w' := by
  cases hv : vld a b
  · exact rhull_bad a b c d w (Or.inl hv)
  cases hu : vld c d
  · exact rhull_bad a b c d w (Or.inr hu)
  by_cases h1 : c < a
  · by_cases h2 : b < d
    · exact rhull_0 a b c d w hv hu h1 h2
    · exact rhull_1 a b c d w hv hu h1 h2
  · by_cases h2 : b < d
    · exact rhull_2 a b c d w hv hu h1 h2
    · exact rhull_3 a b c d w hv hu h1 h2

set_option maxHeartbeats 400000 in
theorem rmeet_0 (a b c d : Int) (w : World) (hv : vld a b = true) (hu : vld c d = true) (h1 : a < c) (h2 : d < b) (h3 : ¬ d < c) :
    Calls Try.prog 42 #[ivl a b, ivl c d] w fun e w' => e = .returned (R3 (meetR a b c d)) ∧ Below w.heap.size w w' := by
  have HF : Hid (meetR a b c d = (c, d, 0)) := Lib.hid (by unfold meetR; rw [two_t hv hu, if_pos h1, if_pos h2, if_neg h3])
  go_enter Try.func42, Try.ntmps42
  go_wp2_with fail
  refine (rvalid_any _ _ _).mono ?_
  rintro e w1 ⟨rfl, hb⟩
  obtain ⟨hc, hf⟩ := bcell hb
  have hz0 : w.heap.size < w1.heap.size := by have := hb.size; simp at this; omega
  have hz1 : w.heap.size + 1 < w1.heap.size := by have := hb.size; simp at this; omega
  have hz2 : w.heap.size + 1 + 1 < w1.heap.size := by have := hb.size; simp at this; omega
  simp only [World.size_alloc] at hc hf
  have hB := below3 hb
  go_wp2_with fail
  refine (rvalid_any _ _ _).mono ?_
  rintro e w2 ⟨rfl, hb2⟩
  obtain ⟨hc2, hf2⟩ := bcell hb2
  have hy0 : w.heap.size < w2.heap.size := by have := hb2.size; omega
  have hy1 : w.heap.size + 1 < w2.heap.size := by have := hb2.size; omega
  have hy2 : w.heap.size + 1 + 1 < w2.heap.size := by have := hb2.size; omega
  have hB2 := hB.trans (hb2.mono (by omega))
  go_wp2_with fail
  refine bodyPost_ret (v := R3 (c, d, 0)) (by simp [results, Try.results42, go_sem, hc, hf, hz0, hz1, hz2, hc2, hf2, hy0, hy1, hy2]) rfl ⟨ret_r3 HF.out, ?_⟩
  repeat (first | exact hB2 | refine Below.setCell ?_ (by simp; try omega) _ | refine bdn ?_ | refine Below.alloc ?_ (by simp; try omega) _)

set_option maxHeartbeats 400000 in
theorem rmeet_1 (a b c d : Int) (w : World) (hv : vld a b = true) (hu : vld c d = true) (h1 : a < c) (h2 : d < b) (h3 : d < c) :
    Calls Try.prog 42 #[ivl a b, ivl c d] w fun e w' => e = .returned (R3 (meetR a b c d)) ∧ Below w.heap.size w w' := by
  have HF : Hid (meetR a b c d = (0, 0, 15)) := Lib.hid (by unfold meetR; rw [two_t hv hu, if_pos h1, if_pos h2, if_pos h3])
  go_enter Try.func42, Try.ntmps42
  go_wp2_with fail
  refine (rvalid_any _ _ _).mono ?_
  rintro e w1 ⟨rfl, hb⟩
  obtain ⟨hc, hf⟩ := bcell hb
  have hz0 : w.heap.size < w1.heap.size := by have := hb.size; simp at this; omega
  have hz1 : w.heap.size + 1 < w1.heap.size := by have := hb.size; simp at this; omega
  have hz2 : w.heap.size + 1 + 1 < w1.heap.size := by have := hb.size; simp at this; omega
  simp only [World.size_alloc] at hc hf
  have hB := below3 hb
  go_wp2_with fail
  refine (rvalid_any _ _ _).mono ?_
  rintro e w2 ⟨rfl, hb2⟩
  obtain ⟨hc2, hf2⟩ := bcell hb2
  have hy0 : w.heap.size < w2.heap.size := by have := hb2.size; omega
  have hy1 : w.heap.size + 1 < w2.heap.size := by have := hb2.size; omega
  have hy2 : w.heap.size + 1 + 1 < w2.heap.size := by have := hb2.size; omega
  have hB2 := hB.trans (hb2.mono (by omega))
  go_wp2_with fail
  refine bodyPost_ret (v := R3 (0, 0, 15)) (by simp [results, Try.results42, go_sem, hc, hf, hz0, hz1, hz2, hc2, hf2, hy0, hy1, hy2]) rfl ⟨ret_r3 HF.out, ?_⟩
  repeat (first | exact hB2 | refine Below.setCell ?_ (by simp; try omega) _ | refine bdn ?_ | refine Below.alloc ?_ (by simp; try omega) _)

set_option maxHeartbeats 400000 in
theorem rmeet_2 (a b c d : Int) (w : World) (hv : vld a b = true) (hu : vld c d = true) (h1 : a < c) (h2 : ¬ d < b) (h3 : ¬ b < c) :
    Calls Try.prog 42 #[ivl a b, ivl c d] w fun e w' => e = .returned (R3 (meetR a b c d)) ∧ Below w.heap.size w w' := by
  have HF : Hid (meetR a b c d = (c, b, 0)) := Lib.hid (by unfold meetR; rw [two_t hv hu, if_pos h1, if_neg h2, if_neg h3])
  go_enter Try.func42, Try.ntmps42
  go_wp2_with fail
  refine (rvalid_any _ _ _).mono ?_
  rintro e w1 ⟨rfl, hb⟩
  obtain ⟨hc, hf⟩ := bcell hb
  have hz0 : w.heap.size < w1.heap.size := by have := hb.size; simp at this; omega
  have hz1 : w.heap.size + 1 < w1.heap.size := by have := hb.size; simp at this; omega
  have hz2 : w.heap.size + 1 + 1 < w1.heap.size := by have := hb.size; simp at this; omega
  simp only [World.size_alloc] at hc hf
  have hB := below3 hb
  go_wp2_with fail
  refine (rvalid_any _ _ _).mono ?_
  rintro e w2 ⟨rfl, hb2⟩
  obtain ⟨hc2, hf2⟩ := bcell hb2
  have hy0 : w.heap.size < w2.heap.size := by have := hb2.size; omega
  have hy1 : w.heap.size + 1 < w2.heap.size := by have := hb2.size; omega
  have hy2 : w.heap.size + 1 + 1 < w2.heap.size := by have := hb2.size; omega
  have hB2 := hB.trans (hb2.mono (by omega))
  go_wp2_with fail
  refine bodyPost_ret (v := R3 (c, b, 0)) (by simp [results, Try.results42, go_sem, hc, hf, hz0, hz1, hz2, hc2, hf2, hy0, hy1, hy2]) rfl ⟨ret_r3 HF.out, ?_⟩
  repeat (first | exact hB2 | refine Below.setCell ?_ (by simp; try omega) _ | refine bdn ?_ | refine Below.alloc ?_ (by simp; try omega) _)

set_option maxHeartbeats 400000 in
theorem rmeet_3 (a b c d : Int) (w : World) (hv : vld a b = true) (hu : vld c d = true) (h1 : a < c) (h2 : ¬ d < b) (h3 : b < c) :
    Calls Try.prog 42 #[ivl a b, ivl c d] w fun e w' => e = .returned (R3 (meetR a b c d)) ∧ Below w.heap.size w w' := by
  have HF : Hid (meetR a b c d = (0, 0, 15)) := Lib.hid (by unfold meetR; rw [two_t hv hu, if_pos h1, if_neg h2, if_pos h3])
  go_enter Try.func42, Try.ntmps42
  go_wp2_with fail
  refine (rvalid_any _ _ _).mono ?_
  rintro e w1 ⟨rfl, hb⟩
  obtain ⟨hc, hf⟩ := bcell hb
  have hz0 : w.heap.size < w1.heap.size := by have := hb.size; simp at this; omega
  have hz1 : w.heap.size + 1 < w1.heap.size := by have := hb.size; simp at this; omega
  have hz2 : w.heap.size + 1 + 1 < w1.heap.size := by have := hb.size; simp at this; omega
  simp only [World.size_alloc] at hc hf
  have hB := below3 hb
  go_wp2_with fail
  refine (rvalid_any _ _ _).mono ?_
  rintro e w2 ⟨rfl, hb2⟩
  obtain ⟨hc2, hf2⟩ := bcell hb2
  have hy0 : w.heap.size < w2.heap.size := by have := hb2.size; omega
  have hy1 : w.heap.size + 1 < w2.heap.size := by have := hb2.size; omega
  have hy2 : w.heap.size + 1 + 1 < w2.heap.size := by have := hb2.size; omega
  have hB2 := hB.trans (hb2.mono (by omega))
  go_wp2_with fail
  refine bodyPost_ret (v := R3 (0, 0, 15)) (by simp [results, Try.results42, go_sem, hc, hf, hz0, hz1, hz2, hc2, hf2, hy0, hy1, hy2]) rfl ⟨ret_r3 HF.out, ?_⟩
  repeat (first | exact hB2 | refine Below.setCell ?_ (by simp; try omega) _ | refine bdn ?_ | refine Below.alloc ?_ (by simp; try omega) _)

set_option maxHeartbeats 400000 in
theorem rmeet_4 (a b c d : Int) (w : World) (hv : vld a b = true) (hu : vld c d = true) (h1 : ¬ a < c) (h2 : d < b) (h3 : ¬ d < a) :
    Calls Try.prog 42 #[ivl a b, ivl c d] w fun e w' => e = .returned (R3 (meetR a b c d)) ∧ Below w.heap.size w w' := by
  have HF : Hid (meetR a b c d = (a, d, 0)) := Lib.hid (by unfold meetR; rw [two_t hv hu, if_neg h1, if_pos h2, if_neg h3])
  go_enter Try.func42, Try.ntmps42
  go_wp2_with fail
  refine (rvalid_any _ _ _).mono ?_
  rintro e w1 ⟨rfl, hb⟩
  obtain ⟨hc, hf⟩ := bcell hb
  have hz0 : w.heap.size < w1.heap.size := by have := hb.size; simp at this; omega
  have hz1 : w.heap.size + 1 < w1.heap.size := by have := hb.size; simp at this; omega
  have hz2 : w.heap.size + 1 + 1 < w1.heap.size := by have := hb.size; simp at this; omega
  simp only [World.size_alloc] at hc hf
  have hB := below3 hb
  go_wp2_with fail
  refine (rvalid_any _ _ _).mono ?_
  rintro e w2 ⟨rfl, hb2⟩
  obtain ⟨hc2, hf2⟩ := bcell hb2
  have hy0 : w.heap.size < w2.heap.size := by have := hb2.size; omega
  have hy1 : w.heap.size + 1 < w2.heap.size := by have := hb2.size; omega
  have hy2 : w.heap.size + 1 + 1 < w2.heap.size := by have := hb2.size; omega
  have hB2 := hB.trans (hb2.mono (by omega))
  go_wp2_with fail
  refine bodyPost_ret (v := R3 (a, d, 0)) (by simp [results, Try.results42, go_sem, hc, hf, hz0, hz1, hz2, hc2, hf2, hy0, hy1, hy2]) rfl ⟨ret_r3 HF.out, ?_⟩
  repeat (first | exact hB2 | refine Below.setCell ?_ (by simp; try omega) _ | refine bdn ?_ | refine Below.alloc ?_ (by simp; try omega) _)

set_option maxHeartbeats 400000 in
theorem rmeet_5 (a b c d : Int) (w : World) (hv : vld a b = true) (hu : vld c d = true) (h1 : ¬ a < c) (h2 : d < b) (h3 : d < a) :
    Calls Try.prog 42 #[ivl a b, ivl c d] w fun e w' => e = .returned (R3 (meetR a b c d)) ∧ Below w.heap.size w w' := by
  have HF : Hid (meetR a b c d = (0, 0, 15)) := Lib.hid (by unfold meetR; rw [two_t hv hu, if_neg h1, if_pos h2, if_pos h3])
  go_enter Try.func42, Try.ntmps42
  go_wp2_with fail
  refine (rvalid_any _ _ _).mono ?_
  rintro e w1 ⟨rfl, hb⟩
  obtain ⟨hc, hf⟩ := bcell hb
  have hz0 : w.heap.size < w1.heap.size := by have := hb.size; simp at this; omega
  have hz1 : w.heap.size + 1 < w1.heap.size := by have := hb.size; simp at this; omega
  have hz2 : w.heap.size + 1 + 1 < w1.heap.size := by have := hb.size; simp at this; omega
  simp only [World.size_alloc] at hc hf
  have hB := below3 hb
  go_wp2_with fail
  refine (rvalid_any _ _ _).mono ?_
  rintro e w2 ⟨rfl, hb2⟩
  obtain ⟨hc2, hf2⟩ := bcell hb2
  have hy0 : w.heap.size < w2.heap.size := by have := hb2.size; omega
  have hy1 : w.heap.size + 1 < w2.heap.size := by have := hb2.size; omega
  have hy2 : w.heap.size + 1 + 1 < w2.heap.size := by have := hb2.size; omega
  have hB2 := hB.trans (hb2.mono (by omega))
  go_wp2_with fail
  refine bodyPost_ret (v := R3 (0, 0, 15)) (by simp [results, Try.results42, go_sem, hc, hf, hz0, hz1, hz2, hc2, hf2, hy0, hy1, hy2]) rfl ⟨ret_r3 HF.out, ?_⟩
  repeat (first | exact hB2 | refine Below.setCell ?_ (by simp; try omega) _ | refine bdn ?_ | refine Below.alloc ?_ (by simp; try omega) _)

set_option maxHeartbeats 400000 in
theorem rmeet_6 (a b c d : Int) (w : World) (hv : vld a b = true) (hu : vld c d = true) (h1 : ¬ a < c) (h2 : ¬ d < b) (h3 : ¬ b < a) :
    Calls Try.prog 42 #[ivl a b, ivl c d] w fun e w' => e = .returned (R3 (meetR a b c d)) ∧ Below w.heap.size w w' := by
  have HF : Hid (meetR a b c d = (a, b, 0)) := Lib.hid (by unfold meetR; rw [two_t hv hu, if_neg h1, if_neg h2, if_neg h3])
  go_enter Try.func42, Try.ntmps42
  go_wp2_with fail
  refine (rvalid_any _ _ _).mono ?_
  rintro e w1 ⟨rfl, hb⟩
  obtain ⟨hc, hf⟩ := bcell hb
  have hz0 : w.heap.size < w1.heap.size := by have := hb.size; simp at this; omega
  have hz1 : w.heap.size + 1 < w1.heap.size := by have := hb.size; simp at this; omega
  have hz2 : w.heap.size + 1 + 1 < w1.heap.size := by have := hb.size; simp at this; omega
  simp only [World.size_alloc] at hc hf
  have hB := below3 hb
  go_wp2_with fail
  refine (rvalid_any _ _ _).mono ?_
  rintro e w2 ⟨rfl, hb2⟩
  obtain ⟨hc2, hf2⟩ := bcell hb2
  have hy0 : w.heap.size < w2.heap.size := by have := hb2.size; omega
  have hy1 : w.heap.size + 1 < w2.heap.size := by have := hb2.size; omega
  have hy2 : w.heap.size + 1 + 1 < w2.heap.size := by have := hb2.size; omega
  have hB2 := hB.trans (hb2.mono (by omega))
  go_wp2_with fail
  refine bodyPost_ret (v := R3 (a, b, 0)) (by simp [results, Try.results42, go_sem, hc, hf, hz0, hz1, hz2, hc2, hf2, hy0, hy1, hy2]) rfl ⟨ret_r3 HF.out, ?_⟩
  repeat (first | exact hB2 | refine Below.setCell ?_ (by simp; try omega) _ | refine bdn ?_ | refine Below.alloc ?_ (by simp; try omega) _)

set_option maxHeartbeats 400000 in
theorem rmeet_7 (a b c d : Int) (w : World) (hv : vld a b = true) (hu : vld c d = true) (h1 : ¬ a < c) (h2 : ¬ d < b) (h3 : b < a) :
    Calls Try.prog 42 #[ivl a b, ivl c d] w fun e w' => e = .returned (R3 (meetR a b c d)) ∧ Below w.heap.size w w' := by
  have HF : Hid (meetR a b c d = (0, 0, 15)) := Lib.hid (by unfold meetR; rw [two_t hv hu, if_neg h1, if_neg h2, if_pos h3])
  go_enter Try.func42, Try.ntmps42
  go_wp2_with fail
  refine (rvalid_any _ _ _).mono ?_
  rintro e w1 ⟨rfl, hb⟩
  obtain ⟨hc, hf⟩ := bcell hb
  have hz0 : w.heap.size < w1.heap.size := by have := hb.size; simp at this; omega
  have hz1 : w.heap.size + 1 < w1.heap.size := by have := hb.size; simp at this; omega
  have hz2 : w.heap.size + 1 + 1 < w1.heap.size := by have := hb.size; simp at this; omega
  simp only [World.size_alloc] at hc hf
  have hB := below3 hb
  go_wp2_with fail
  refine (rvalid_any _ _ _).mono ?_
  rintro e w2 ⟨rfl, hb2⟩
  obtain ⟨hc2, hf2⟩ := bcell hb2
  have hy0 : w.heap.size < w2.heap.size := by have := hb2.size; omega
  have hy1 : w.heap.size + 1 < w2.heap.size := by have := hb2.size; omega
  have hy2 : w.heap.size + 1 + 1 < w2.heap.size := by have := hb2.size; omega
  have hB2 := hB.trans (hb2.mono (by omega))
  go_wp2_with fail
  refine bodyPost_ret (v := R3 (0, 0, 15)) (by simp [results, Try.results42, go_sem, hc, hf, hz0, hz1, hz2, hc2, hf2, hy0, hy1, hy2]) rfl ⟨ret_r3 HF.out, ?_⟩
  repeat (first | exact hB2 | refine Below.setCell ?_ (by simp; try omega) _ | refine bdn ?_ | refine Below.alloc ?_ (by simp; try omega) _)

theorem rmeet_any (a b c d : Int) (w : World) :
    Calls Try.prog 42 #[ivl a b, ivl c d] w fun e w' => e = .returned (R3 (meetR a b c d)) ∧ Below w.heap.size w w' := by
  cases hv : vld a b
  · exact rmeet_bad a b c d w (Or.inl hv)
  cases hu : vld c d
  · exact rmeet_bad a b c d w (Or.inr hu)
  by_cases h1 : a < c
  · by_cases h2 : d < b
    · by_cases h3 : d < c
      · exact rmeet_1 a b c d w hv hu h1 h2 h3
      · exact rmeet_0 a b c d w hv hu h1 h2 h3
    · by_cases h3 : b < c
      · exact rmeet_3 a b c d w hv hu h1 h2 h3
      · exact rmeet_2 a b c d w hv hu h1 h2 h3
  · by_cases h2 : d < b
    · by_cases h3 : d < a
      · exact rmeet_5 a b c d w hv hu h1 h2 h3
      · exact rmeet_4 a b c d w hv hu h1 h2 h3
    · by_cases h3 : b < a
      · exact rmeet_7 a b c d w hv hu h1 h2 h3
      · exact rmeet_6 a b c d w hv hu h1 h2 h3

end Go.Proofs.Ytfpjpilhblhhgaa
