/-
  The contracts of Contains, Within, Add, Sub, Hull and Meet: the program's and the reference's.
-/
import Derived.Test.YtfpjpilhblhhgaaSane
set_option linter.unusedSimpArgs false
set_option linter.unusedVariables false
namespace Go.Proofs.Ytfpjpilhblhhgaa
open Go.RowKit

def cnt (a b n : Int) : Bool := vld a b && decide (a ≤ n ∧ n ≤ b)
def wth (a b c d : Int) : Bool := vld a b && (vld c d && decide (c ≤ a ∧ b ≤ d))
def lim (a b : Int) : Int × Int × Int := if vld a b = true then (a, b, 0) else (0, 0, 4)
def two (a b c d : Int) (t : Int × Int × Int) : Int × Int × Int := if vld a b = true ∧ vld c d = true then t else (0, 0, 1)
def addR (a b c d : Int) : Int × Int × Int := two a b c d (lim (a + c) (b + d))
def subR (a b c d : Int) : Int × Int × Int := two a b c d (lim (a - d) (b - c))
def hullR (a b c d : Int) : Int × Int × Int := two a b c d (if c < a then c else a, if b < d then d else b, 0)
def meetR (a b c d : Int) : Int × Int × Int := two a b c d (if (if d < b then d else b) < (if a < c then c else a) then (0, 0, 15) else (if a < c then c else a, if d < b then d else b, 0))

theorem two_t {a b c d : Int} {t : Int × Int × Int} (h : vld a b = true) (k : vld c d = true) : two a b c d t = t := if_pos ⟨h, k⟩
theorem two_f1 {a b c d : Int} {t : Int × Int × Int} (h : vld a b = false) : two a b c d t = (0, 0, 1) := if_neg (by simp [h])
theorem two_f2 {a b c d : Int} {t : Int × Int × Int} (h : vld c d = false) : two a b c d t = (0, 0, 1) := if_neg (by simp [h])

set_option maxHeartbeats 400000 in
theorem contains_any (a b n : Int) (w : World) :
    Calls Try.prog 24 #[ivl a b, .int .i64 n] w fun e w' => e = .returned (.bool (cnt a b n)) ∧ Below w.heap.size w w' := by
  have HF : Hid (cnt a b n = (vld a b && decide (a ≤ n ∧ n ≤ b))) := Lib.hid rfl
  cases hv : vld a b
  · have HV := Lib.hid hv
    go_enter Try.func24, Try.ntmps24
    go_wp2_with fail
    refine (valid_any _ _ _).mono ?_
    rintro e w1 ⟨rfl, hb⟩
    obtain ⟨hc, hf⟩ := bcell hb
    have hz0 : w.heap.size < w1.heap.size := by have := hb.size; simp at this; omega
    simp only [World.size_alloc] at hc hf
    have hB := below1 hb
    go_wp2_with fail
    go_ret
    exact ⟨ret_bool (by rw [HF.out, HV.out]; rfl), hB⟩
  · have HV := Lib.hid hv
    by_cases h1 : a ≤ n
    all_goals by_cases h2 : n ≤ b
    all_goals
      go_enter Try.func24, Try.ntmps24
      go_wp2_with fail
      refine (valid_any _ _ _).mono ?_
      rintro e w1 ⟨rfl, hb⟩
      obtain ⟨hc, hf⟩ := bcell hb
      have hz0 : w.heap.size < w1.heap.size := by have := hb.size; simp at this; omega
      simp only [World.size_alloc] at hc hf
      have hB := below1 hb
      go_wp2_with fail
      go_ret
      exact ⟨ret_bool (by rw [HF.out, HV.out, Bool.true_and]; first | (refine decide_eq_decide.2 ?_; omega) | (refine (decide_eq_true (p := a ≤ n ∧ n ≤ b) ?_).symm; omega) | (refine (decide_eq_false (p := a ≤ n ∧ n ≤ b) ?_).symm; omega)), hB⟩

set_option maxHeartbeats 400000 in
theorem rcontains_any (a b n : Int) (w : World) :
    Calls Try.prog 35 #[ivl a b, .int .i64 n] w fun e w' => e = .returned (.bool (cnt a b n)) ∧ Below w.heap.size w w' := by
  have HF : Hid (cnt a b n = (vld a b && decide (a ≤ n ∧ n ≤ b))) := Lib.hid rfl
  cases hv : vld a b
  · have HV := Lib.hid hv
    go_enter Try.func35, Try.ntmps35
    go_wp2_with fail
    refine (rvalid_any _ _ _).mono ?_
    rintro e w1 ⟨rfl, hb⟩
    obtain ⟨hc, hf⟩ := bcell hb
    have hz0 : w.heap.size < w1.heap.size := by have := hb.size; simp at this; omega
    simp only [World.size_alloc] at hc hf
    have hB := below1 hb
    go_wp2_with fail
    go_ret
    exact ⟨ret_bool (by rw [HF.out, HV.out]; rfl), hB⟩
  · have HV := Lib.hid hv
    by_cases h1 : a ≤ n
    all_goals by_cases h2 : n ≤ b
    all_goals
      go_enter Try.func35, Try.ntmps35
      go_wp2_with fail
      refine (rvalid_any _ _ _).mono ?_
      rintro e w1 ⟨rfl, hb⟩
      obtain ⟨hc, hf⟩ := bcell hb
      have hz0 : w.heap.size < w1.heap.size := by have := hb.size; simp at this; omega
      simp only [World.size_alloc] at hc hf
      have hB := below1 hb
      go_wp2_with fail
      go_ret
      exact ⟨ret_bool (by rw [HF.out, HV.out, Bool.true_and]; first | (refine decide_eq_decide.2 ?_; omega) | (refine (decide_eq_true (p := a ≤ n ∧ n ≤ b) ?_).symm; omega) | (refine (decide_eq_false (p := a ≤ n ∧ n ≤ b) ?_).symm; omega)), hB⟩

set_option maxHeartbeats 400000 in
theorem within_any (a b c d : Int) (w : World) :
    Calls Try.prog 29 #[ivl a b, ivl c d] w fun e w' => e = .returned (.bool (wth a b c d)) ∧ Below w.heap.size w w' := by
  have HF : Hid (wth a b c d = (vld a b && (vld c d && decide (c ≤ a ∧ b ≤ d)))) := Lib.hid rfl
  cases hv : vld a b
  · have HV := Lib.hid hv
    go_enter Try.func29, Try.ntmps29
    go_wp2_with fail
    refine (valid_any _ _ _).mono ?_
    rintro e w1 ⟨rfl, hb⟩
    obtain ⟨hc, hf⟩ := bcell hb
    have hz0 : w.heap.size < w1.heap.size := by have := hb.size; simp at this; omega
    have hz1 : w.heap.size + 1 < w1.heap.size := by have := hb.size; simp at this; omega
    simp only [World.size_alloc] at hc hf
    have hB := below2 hb
    go_wp2_with fail
    go_ret
    exact ⟨ret_bool (by rw [HF.out, HV.out]; rfl), hB⟩
  cases hu : vld c d
  · have HV := Lib.hid hv
    have HU := Lib.hid hu
    go_enter Try.func29, Try.ntmps29
    go_wp2_with fail
    refine (valid_any _ _ _).mono ?_
    rintro e w1 ⟨rfl, hb⟩
    obtain ⟨hc, hf⟩ := bcell hb
    have hz0 : w.heap.size < w1.heap.size := by have := hb.size; simp at this; omega
    have hz1 : w.heap.size + 1 < w1.heap.size := by have := hb.size; simp at this; omega
    simp only [World.size_alloc] at hc hf
    have hB := below2 hb
    go_wp2_with fail
    refine (valid_any _ _ _).mono ?_
    rintro e w2 ⟨rfl, hb2⟩
    obtain ⟨hc2, hf2⟩ := bcell hb2
    have hy0 : w.heap.size < w2.heap.size := by have := hb2.size; omega
    have hy1 : w.heap.size + 1 < w2.heap.size := by have := hb2.size; omega
    have hB2 := hB.trans (hb2.mono (by omega))
    go_wp2_with fail
    go_ret
    exact ⟨ret_bool (by rw [HF.out, HV.out, HU.out]; rfl), hB2⟩
  · have HV := Lib.hid hv
    have HU := Lib.hid hu
    by_cases h1 : c ≤ a
    all_goals by_cases h2 : b ≤ d
    all_goals
      go_enter Try.func29, Try.ntmps29
      go_wp2_with fail
      refine (valid_any _ _ _).mono ?_
      rintro e w1 ⟨rfl, hb⟩
      obtain ⟨hc, hf⟩ := bcell hb
      have hz0 : w.heap.size < w1.heap.size := by have := hb.size; simp at this; omega
      have hz1 : w.heap.size + 1 < w1.heap.size := by have := hb.size; simp at this; omega
      simp only [World.size_alloc] at hc hf
      have hB := below2 hb
      go_wp2_with fail
      refine (valid_any _ _ _).mono ?_
      rintro e w2 ⟨rfl, hb2⟩
      obtain ⟨hc2, hf2⟩ := bcell hb2
      have hy0 : w.heap.size < w2.heap.size := by have := hb2.size; omega
      have hy1 : w.heap.size + 1 < w2.heap.size := by have := hb2.size; omega
      have hB2 := hB.trans (hb2.mono (by omega))
      go_wp2_with fail
      go_ret
      exact ⟨ret_bool (by rw [HF.out, HV.out, HU.out, Bool.true_and, Bool.true_and]; first | (refine decide_eq_decide.2 ?_; omega) | (refine (decide_eq_true (p := c ≤ a ∧ b ≤ d) ?_).symm; omega) | (refine (decide_eq_false (p := c ≤ a ∧ b ≤ d) ?_).symm; omega)), hB2⟩

set_option maxHeartbeats 400000 in
theorem rwithin_any (a b c d : Int) (w : World) :
    Calls Try.prog 36 #[ivl a b, ivl c d] w fun e w' => e = .returned (.bool (wth a b c d)) ∧ Below w.heap.size w w' := by
  have HF : Hid (wth a b c d = (vld a b && (vld c d && decide (c ≤ a ∧ b ≤ d)))) := Lib.hid rfl
  cases hv : vld a b
  · have HV := Lib.hid hv
    go_enter Try.func36, Try.ntmps36
    go_wp2_with fail
    refine (rvalid_any _ _ _).mono ?_
    rintro e w1 ⟨rfl, hb⟩
    obtain ⟨hc, hf⟩ := bcell hb
    have hz0 : w.heap.size < w1.heap.size := by have := hb.size; simp at this; omega
    have hz1 : w.heap.size + 1 < w1.heap.size := by have := hb.size; simp at this; omega
    simp only [World.size_alloc] at hc hf
    have hB := below2 hb
    go_wp2_with fail
    go_ret
    exact ⟨ret_bool (by rw [HF.out, HV.out]; rfl), hB⟩
  cases hu : vld c d
  · have HV := Lib.hid hv
    have HU := Lib.hid hu
    go_enter Try.func36, Try.ntmps36
    go_wp2_with fail
    refine (rvalid_any _ _ _).mono ?_
    rintro e w1 ⟨rfl, hb⟩
    obtain ⟨hc, hf⟩ := bcell hb
    have hz0 : w.heap.size < w1.heap.size := by have := hb.size; simp at this; omega
    have hz1 : w.heap.size + 1 < w1.heap.size := by have := hb.size; simp at this; omega
    simp only [World.size_alloc] at hc hf
    have hB := below2 hb
    go_wp2_with fail
    refine (rvalid_any _ _ _).mono ?_
    rintro e w2 ⟨rfl, hb2⟩
    obtain ⟨hc2, hf2⟩ := bcell hb2
    have hy0 : w.heap.size < w2.heap.size := by have := hb2.size; omega
    have hy1 : w.heap.size + 1 < w2.heap.size := by have := hb2.size; omega
    have hB2 := hB.trans (hb2.mono (by omega))
    go_wp2_with fail
    go_ret
    exact ⟨ret_bool (by rw [HF.out, HV.out, HU.out]; rfl), hB2⟩
  · have HV := Lib.hid hv
    have HU := Lib.hid hu
    by_cases h1 : c ≤ a
    all_goals by_cases h2 : b ≤ d
    all_goals
      go_enter Try.func36, Try.ntmps36
      go_wp2_with fail
      refine (rvalid_any _ _ _).mono ?_
      rintro e w1 ⟨rfl, hb⟩
      obtain ⟨hc, hf⟩ := bcell hb
      have hz0 : w.heap.size < w1.heap.size := by have := hb.size; simp at this; omega
      have hz1 : w.heap.size + 1 < w1.heap.size := by have := hb.size; simp at this; omega
      simp only [World.size_alloc] at hc hf
      have hB := below2 hb
      go_wp2_with fail
      refine (rvalid_any _ _ _).mono ?_
      rintro e w2 ⟨rfl, hb2⟩
      obtain ⟨hc2, hf2⟩ := bcell hb2
      have hy0 : w.heap.size < w2.heap.size := by have := hb2.size; omega
      have hy1 : w.heap.size + 1 < w2.heap.size := by have := hb2.size; omega
      have hB2 := hB.trans (hb2.mono (by omega))
      go_wp2_with fail
      go_ret
      exact ⟨ret_bool (by rw [HF.out, HV.out, HU.out, Bool.true_and, Bool.true_and]; first | (refine decide_eq_decide.2 ?_; omega) | (refine (decide_eq_true (p := c ≤ a ∧ b ≤ d) ?_).symm; omega) | (refine (decide_eq_false (p := c ≤ a ∧ b ≤ d) ?_).symm; omega)), hB2⟩

set_option maxHeartbeats 400000 in
theorem limited_any (a b : Int) (w : World) :
    Calls Try.prog 46 #[.int .i64 a, .int .i64 b] w fun e w' => e = .returned (R3 (lim a b)) ∧ Below w.heap.size w w' := by
  cases hv : vld a b
  · have HF : Hid (lim a b = (0, 0, 4)) := Lib.hid (if_neg (by simp [hv]))
    go_enter Try.func46, Try.ntmps46
    go_wp2_with fail
    refine (valid_any _ _ _).mono ?_
    rintro e w1 ⟨rfl, hb⟩
    obtain ⟨hc, hf⟩ := bcell hb
    have hz0 : w.heap.size < w1.heap.size := by have := hb.size; simp at this; omega
    have hz1 : w.heap.size + 1 < w1.heap.size := by have := hb.size; simp at this; omega
    simp only [World.size_alloc] at hc hf
    have hB := below2 hb
    have e0 : w1.cell? ⟨w.heap.size, 0, none⟩ = some (.int .i64 0) := by rw [hc _ _ (by omega)]; go_cell
    have e1 : w1.cell? ⟨w.heap.size, 1, none⟩ = some (.int .i64 0) := by rw [hc _ _ (by omega)]; go_cell
    go_wp2_with fail
    exact bodyPost_ret (v := R3 (0, 0, 4)) (by simp [results, Try.results46, go_sem, e0, e1]) rfl ⟨ret_r3 HF.out, by go_grown⟩
  · have HF : Hid (lim a b = (a, b, 0)) := Lib.hid (if_pos hv)
    go_enter Try.func46, Try.ntmps46
    go_wp2_with fail
    refine (valid_any _ _ _).mono ?_
    rintro e w1 ⟨rfl, hb⟩
    obtain ⟨hc, hf⟩ := bcell hb
    have hz0 : w.heap.size < w1.heap.size := by have := hb.size; simp at this; omega
    have hz1 : w.heap.size + 1 < w1.heap.size := by have := hb.size; simp at this; omega
    simp only [World.size_alloc] at hc hf
    have hB := below2 hb
    have e0 : w1.cell? ⟨w.heap.size, 0, none⟩ = some (.int .i64 0) := by rw [hc _ _ (by omega)]; go_cell
    have e1 : w1.cell? ⟨w.heap.size, 1, none⟩ = some (.int .i64 0) := by rw [hc _ _ (by omega)]; go_cell
    go_wp2_with fail
    exact bodyPost_ret (v := R3 (a, b, 0)) (by simp [results, Try.results46, go_sem, e0, e1]) rfl ⟨ret_r3 HF.out, by go_grown⟩

set_option maxHeartbeats 400000 in
theorem checked_any (a b : Int) (w : World) (hab : a ≤ b) :
    Calls Try.prog 50 #[.int .i64 a, .int .i64 b] w fun e w' => e = .returned (R3 (lim a b)) ∧ Below w.heap.size w w' := by
  by_cases h1 : a < -1000000000000
  · have HF : Hid (lim a b = (0, 0, 4)) := Lib.hid (if_neg (by rw [vld_no (by omega)]; simp))
    go_enter Try.func50, Try.ntmps50
    go_wp2_with fail
    exact bodyPost_ret (v := R3 (0, 0, 4)) (by simp [results, Try.results50, go_sem]) rfl ⟨ret_r3 HF.out, by go_grown⟩
  by_cases h2 : 1000000000000 < b
  · have HF : Hid (lim a b = (0, 0, 4)) := Lib.hid (if_neg (by rw [vld_no (by omega)]; simp))
    go_enter Try.func50, Try.ntmps50
    go_wp2_with fail
    exact bodyPost_ret (v := R3 (0, 0, 4)) (by simp [results, Try.results50, go_sem]) rfl ⟨ret_r3 HF.out, by go_grown⟩
  · have HF : Hid (lim a b = (a, b, 0)) := Lib.hid (if_pos (vld_mk (by omega)))
    go_enter Try.func50, Try.ntmps50
    go_wp2_with fail
    exact bodyPost_ret (v := R3 (a, b, 0)) (by simp [results, Try.results50, go_sem]) rfl ⟨ret_r3 HF.out, by go_grown⟩

set_option maxHeartbeats 400000 in
theorem add_any (a b c d : Int) (w : World) :
    Calls Try.prog 21 #[ivl a b, ivl c d] w fun e w' => e = .returned (R3 (addR a b c d)) ∧ Below w.heap.size w w' := by
  cases hv : vld a b
  · have HF : Hid (addR a b c d = (0, 0, 1)) := Lib.hid (two_f1 hv)
    go_enter Try.func21, Try.ntmps21
    go_wp2_with fail
    refine (valid_any _ _ _).mono ?_
    rintro e w1 ⟨rfl, hb⟩
    obtain ⟨hc, hf⟩ := bcell hb
    have hz0 : w.heap.size < w1.heap.size := by have := hb.size; simp at this; omega
    have hz1 : w.heap.size + 1 < w1.heap.size := by have := hb.size; simp at this; omega
    have hz2 : w.heap.size + 1 + 1 < w1.heap.size := by have := hb.size; simp at this; omega
    simp only [World.size_alloc] at hc hf
    have hB := below3 hb
    go_wp2_with fail
    exact bodyPost_ret (v := R3 (0, 0, 1)) (by simp [results, Try.results21, go_sem, hc, hf, hz0, hz1, hz2]) rfl ⟨ret_r3 HF.out, by go_grown⟩
  cases hu : vld c d
  · have HF : Hid (addR a b c d = (0, 0, 1)) := Lib.hid (two_f2 hu)
    go_enter Try.func21, Try.ntmps21
    go_wp2_with fail
    refine (valid_any _ _ _).mono ?_
    rintro e w1 ⟨rfl, hb⟩
    obtain ⟨hc, hf⟩ := bcell hb
    have hz0 : w.heap.size < w1.heap.size := by have := hb.size; simp at this; omega
    have hz1 : w.heap.size + 1 < w1.heap.size := by have := hb.size; simp at this; omega
    have hz2 : w.heap.size + 1 + 1 < w1.heap.size := by have := hb.size; simp at this; omega
    simp only [World.size_alloc] at hc hf
    have hB := below3 hb
    go_wp2_with fail
    refine (valid_any _ _ _).mono ?_
    rintro e w2 ⟨rfl, hb2⟩
    obtain ⟨hc2, hf2⟩ := bcell hb2
    have hy0 : w.heap.size < w2.heap.size := by have := hb2.size; omega
    have hy1 : w.heap.size + 1 < w2.heap.size := by have := hb2.size; omega
    have hy2 : w.heap.size + 1 + 1 < w2.heap.size := by have := hb2.size; omega
    have hB2 := hB.trans (hb2.mono (by omega))
    go_wp2_with fail
    exact bodyPost_ret (v := R3 (0, 0, 1)) (by simp [results, Try.results21, go_sem, hc, hf, hz0, hz1, hz2, hc2, hf2, hy0, hy1, hy2]) rfl ⟨ret_r3 HF.out, by go_grown⟩
  · have HF : Hid (addR a b c d = lim (a + c) (b + d)) := Lib.hid (two_t hv hu)
    obtain ⟨v1, v2, v3⟩ := vld_t hv
    obtain ⟨u1, u2, u3⟩ := vld_t hu
    go_enter Try.func21, Try.ntmps21
    go_wp2_with fail
    refine (valid_any _ _ _).mono ?_
    rintro e w1 ⟨rfl, hb⟩
    obtain ⟨hc, hf⟩ := bcell hb
    have hz0 : w.heap.size < w1.heap.size := by have := hb.size; simp at this; omega
    have hz1 : w.heap.size + 1 < w1.heap.size := by have := hb.size; simp at this; omega
    have hz2 : w.heap.size + 1 + 1 < w1.heap.size := by have := hb.size; simp at this; omega
    simp only [World.size_alloc] at hc hf
    have hB := below3 hb
    go_wp2_with fail
    refine (valid_any _ _ _).mono ?_
    rintro e w2 ⟨rfl, hb2⟩
    obtain ⟨hc2, hf2⟩ := bcell hb2
    have hy0 : w.heap.size < w2.heap.size := by have := hb2.size; omega
    have hy1 : w.heap.size + 1 < w2.heap.size := by have := hb2.size; omega
    have hy2 : w.heap.size + 1 + 1 < w2.heap.size := by have := hb2.size; omega
    have hB2 := hB.trans (hb2.mono (by omega))
    go_wp2_with fail
    refine (limited_any _ _ _).mono ?_
    rintro e w3 ⟨rfl, hb3⟩
    obtain ⟨hc3, hf3⟩ := bcell hb3
    have hx2 : w.heap.size + 1 + 1 < w3.heap.size := by have := hb3.size; omega
    have hB3 := hB2.trans (hb3.mono (by omega))
    go_wp2_with fail
    exact bodyPost_ret (v := R3 (lim (a + c) (b + d))) (by simp [results, Try.results21, go_sem, hc, hf, hz0, hz1, hz2, hc2, hf2, hy0, hy1, hy2, hc3, hf3, hx2]) rfl ⟨ret_r3' HF.out, by go_grown⟩

set_option maxHeartbeats 400000 in
theorem sub_any (a b c d : Int) (w : World) :
    Calls Try.prog 22 #[ivl a b, ivl c d] w fun e w' => e = .returned (R3 (subR a b c d)) ∧ Below w.heap.size w w' := by
  cases hv : vld a b
  · have HF : Hid (subR a b c d = (0, 0, 1)) := Lib.hid (two_f1 hv)
    go_enter Try.func22, Try.ntmps22
    go_wp2_with fail
    refine (valid_any _ _ _).mono ?_
    rintro e w1 ⟨rfl, hb⟩
    obtain ⟨hc, hf⟩ := bcell hb
    have hz0 : w.heap.size < w1.heap.size := by have := hb.size; simp at this; omega
    have hz1 : w.heap.size + 1 < w1.heap.size := by have := hb.size; simp at this; omega
    have hz2 : w.heap.size + 1 + 1 < w1.heap.size := by have := hb.size; simp at this; omega
    simp only [World.size_alloc] at hc hf
    have hB := below3 hb
    go_wp2_with fail
    exact bodyPost_ret (v := R3 (0, 0, 1)) (by simp [results, Try.results22, go_sem, hc, hf, hz0, hz1, hz2]) rfl ⟨ret_r3 HF.out, by go_grown⟩
  cases hu : vld c d
  · have HF : Hid (subR a b c d = (0, 0, 1)) := Lib.hid (two_f2 hu)
    go_enter Try.func22, Try.ntmps22
    go_wp2_with fail
    refine (valid_any _ _ _).mono ?_
    rintro e w1 ⟨rfl, hb⟩
    obtain ⟨hc, hf⟩ := bcell hb
    have hz0 : w.heap.size < w1.heap.size := by have := hb.size; simp at this; omega
    have hz1 : w.heap.size + 1 < w1.heap.size := by have := hb.size; simp at this; omega
    have hz2 : w.heap.size + 1 + 1 < w1.heap.size := by have := hb.size; simp at this; omega
    simp only [World.size_alloc] at hc hf
    have hB := below3 hb
    go_wp2_with fail
    refine (valid_any _ _ _).mono ?_
    rintro e w2 ⟨rfl, hb2⟩
    obtain ⟨hc2, hf2⟩ := bcell hb2
    have hy0 : w.heap.size < w2.heap.size := by have := hb2.size; omega
    have hy1 : w.heap.size + 1 < w2.heap.size := by have := hb2.size; omega
    have hy2 : w.heap.size + 1 + 1 < w2.heap.size := by have := hb2.size; omega
    have hB2 := hB.trans (hb2.mono (by omega))
    go_wp2_with fail
    exact bodyPost_ret (v := R3 (0, 0, 1)) (by simp [results, Try.results22, go_sem, hc, hf, hz0, hz1, hz2, hc2, hf2, hy0, hy1, hy2]) rfl ⟨ret_r3 HF.out, by go_grown⟩
  · have HF : Hid (subR a b c d = lim (a - d) (b - c)) := Lib.hid (two_t hv hu)
    obtain ⟨v1, v2, v3⟩ := vld_t hv
    obtain ⟨u1, u2, u3⟩ := vld_t hu
    go_enter Try.func22, Try.ntmps22
    go_wp2_with fail
    refine (valid_any _ _ _).mono ?_
    rintro e w1 ⟨rfl, hb⟩
    obtain ⟨hc, hf⟩ := bcell hb
    have hz0 : w.heap.size < w1.heap.size := by have := hb.size; simp at this; omega
    have hz1 : w.heap.size + 1 < w1.heap.size := by have := hb.size; simp at this; omega
    have hz2 : w.heap.size + 1 + 1 < w1.heap.size := by have := hb.size; simp at this; omega
    simp only [World.size_alloc] at hc hf
    have hB := below3 hb
    go_wp2_with fail
    refine (valid_any _ _ _).mono ?_
    rintro e w2 ⟨rfl, hb2⟩
    obtain ⟨hc2, hf2⟩ := bcell hb2
    have hy0 : w.heap.size < w2.heap.size := by have := hb2.size; omega
    have hy1 : w.heap.size + 1 < w2.heap.size := by have := hb2.size; omega
    have hy2 : w.heap.size + 1 + 1 < w2.heap.size := by have := hb2.size; omega
    have hB2 := hB.trans (hb2.mono (by omega))
    go_wp2_with fail
    refine (limited_any _ _ _).mono ?_
    rintro e w3 ⟨rfl, hb3⟩
    obtain ⟨hc3, hf3⟩ := bcell hb3
    have hx2 : w.heap.size + 1 + 1 < w3.heap.size := by have := hb3.size; omega
    have hB3 := hB2.trans (hb3.mono (by omega))
    go_wp2_with fail
    exact bodyPost_ret (v := R3 (lim (a - d) (b - c))) (by simp [results, Try.results22, go_sem, hc, hf, hz0, hz1, hz2, hc2, hf2, hy0, hy1, hy2, hc3, hf3, hx2]) rfl ⟨ret_r3' HF.out, by go_grown⟩

set_option maxHeartbeats 400000 in
theorem radd_any (a b c d : Int) (w : World) :
    Calls Try.prog 32 #[ivl a b, ivl c d] w fun e w' => e = .returned (R3 (addR a b c d)) ∧ Below w.heap.size w w' := by
  cases hv : vld a b
  · have HF : Hid (addR a b c d = (0, 0, 1)) := Lib.hid (two_f1 hv)
    go_enter Try.func32, Try.ntmps32
    go_wp2_with fail
    refine (rvalid_any _ _ _).mono ?_
    rintro e w1 ⟨rfl, hb⟩
    obtain ⟨hc, hf⟩ := bcell hb
    have hz0 : w.heap.size < w1.heap.size := by have := hb.size; simp at this; omega
    have hz1 : w.heap.size + 1 < w1.heap.size := by have := hb.size; simp at this; omega
    have hz2 : w.heap.size + 1 + 1 < w1.heap.size := by have := hb.size; simp at this; omega
    simp only [World.size_alloc] at hc hf
    have hB := below3 hb
    go_wp2_with fail
    exact bodyPost_ret (v := R3 (0, 0, 1)) (by simp [results, Try.results32, go_sem, hc, hf, hz0, hz1, hz2]) rfl ⟨ret_r3 HF.out, by go_grown⟩
  cases hu : vld c d
  · have HF : Hid (addR a b c d = (0, 0, 1)) := Lib.hid (two_f2 hu)
    go_enter Try.func32, Try.ntmps32
    go_wp2_with fail
    refine (rvalid_any _ _ _).mono ?_
    rintro e w1 ⟨rfl, hb⟩
    obtain ⟨hc, hf⟩ := bcell hb
    have hz0 : w.heap.size < w1.heap.size := by have := hb.size; simp at this; omega
    have hz1 : w.heap.size + 1 < w1.heap.size := by have := hb.size; simp at this; omega
    have hz2 : w.heap.size + 1 + 1 < w1.heap.size := by have := hb.size; simp at this; omega
    simp only [World.size_alloc] at hc hf
    have hB := below3 hb
    go_wp2_with fail
    refine (rvalid_any _ _ _).mono ?_
    rintro e w2 ⟨rfl, hb2⟩
    obtain ⟨hc2, hf2⟩ := bcell hb2
    have hy0 : w.heap.size < w2.heap.size := by have := hb2.size; omega
    have hy1 : w.heap.size + 1 < w2.heap.size := by have := hb2.size; omega
    have hy2 : w.heap.size + 1 + 1 < w2.heap.size := by have := hb2.size; omega
    have hB2 := hB.trans (hb2.mono (by omega))
    go_wp2_with fail
    exact bodyPost_ret (v := R3 (0, 0, 1)) (by simp [results, Try.results32, go_sem, hc, hf, hz0, hz1, hz2, hc2, hf2, hy0, hy1, hy2]) rfl ⟨ret_r3 HF.out, by go_grown⟩
  · have HF : Hid (addR a b c d = lim (a + c) (b + d)) := Lib.hid (two_t hv hu)
    obtain ⟨v1, v2, v3⟩ := vld_t hv
    obtain ⟨u1, u2, u3⟩ := vld_t hu
    go_enter Try.func32, Try.ntmps32
    go_wp2_with fail
    refine (rvalid_any _ _ _).mono ?_
    rintro e w1 ⟨rfl, hb⟩
    obtain ⟨hc, hf⟩ := bcell hb
    have hz0 : w.heap.size < w1.heap.size := by have := hb.size; simp at this; omega
    have hz1 : w.heap.size + 1 < w1.heap.size := by have := hb.size; simp at this; omega
    have hz2 : w.heap.size + 1 + 1 < w1.heap.size := by have := hb.size; simp at this; omega
    simp only [World.size_alloc] at hc hf
    have hB := below3 hb
    go_wp2_with fail
    refine (rvalid_any _ _ _).mono ?_
    rintro e w2 ⟨rfl, hb2⟩
    obtain ⟨hc2, hf2⟩ := bcell hb2
    have hy0 : w.heap.size < w2.heap.size := by have := hb2.size; omega
    have hy1 : w.heap.size + 1 < w2.heap.size := by have := hb2.size; omega
    have hy2 : w.heap.size + 1 + 1 < w2.heap.size := by have := hb2.size; omega
    have hB2 := hB.trans (hb2.mono (by omega))
    go_wp2_with fail
    refine (checked_any _ _ _ (by omega)).mono ?_
    rintro e w3 ⟨rfl, hb3⟩
    obtain ⟨hc3, hf3⟩ := bcell hb3
    have hx2 : w.heap.size + 1 + 1 < w3.heap.size := by have := hb3.size; omega
    have hB3 := hB2.trans (hb3.mono (by omega))
    go_wp2_with fail
    exact bodyPost_ret (v := R3 (lim (a + c) (b + d))) (by simp [results, Try.results32, go_sem, hc, hf, hz0, hz1, hz2, hc2, hf2, hy0, hy1, hy2, hc3, hf3, hx2]) rfl ⟨ret_r3' HF.out, by go_grown⟩

set_option maxHeartbeats 400000 in
theorem rsub_any (a b c d : Int) (w : World) :
    Calls Try.prog 37 #[ivl a b, ivl c d] w fun e w' => e = .returned (R3 (subR a b c d)) ∧ Below w.heap.size w w' := by
  cases hv : vld a b
  · have HF : Hid (subR a b c d = (0, 0, 1)) := Lib.hid (two_f1 hv)
    go_enter Try.func37, Try.ntmps37
    go_wp2_with fail
    refine (rvalid_any _ _ _).mono ?_
    rintro e w1 ⟨rfl, hb⟩
    obtain ⟨hc, hf⟩ := bcell hb
    have hz0 : w.heap.size < w1.heap.size := by have := hb.size; simp at this; omega
    have hz1 : w.heap.size + 1 < w1.heap.size := by have := hb.size; simp at this; omega
    have hz2 : w.heap.size + 1 + 1 < w1.heap.size := by have := hb.size; simp at this; omega
    simp only [World.size_alloc] at hc hf
    have hB := below3 hb
    go_wp2_with fail
    exact bodyPost_ret (v := R3 (0, 0, 1)) (by simp [results, Try.results37, go_sem, hc, hf, hz0, hz1, hz2]) rfl ⟨ret_r3 HF.out, by go_grown⟩
  cases hu : vld c d
  · have HF : Hid (subR a b c d = (0, 0, 1)) := Lib.hid (two_f2 hu)
    go_enter Try.func37, Try.ntmps37
    go_wp2_with fail
    refine (rvalid_any _ _ _).mono ?_
    rintro e w1 ⟨rfl, hb⟩
    obtain ⟨hc, hf⟩ := bcell hb
    have hz0 : w.heap.size < w1.heap.size := by have := hb.size; simp at this; omega
    have hz1 : w.heap.size + 1 < w1.heap.size := by have := hb.size; simp at this; omega
    have hz2 : w.heap.size + 1 + 1 < w1.heap.size := by have := hb.size; simp at this; omega
    simp only [World.size_alloc] at hc hf
    have hB := below3 hb
    go_wp2_with fail
    refine (rvalid_any _ _ _).mono ?_
    rintro e w2 ⟨rfl, hb2⟩
    obtain ⟨hc2, hf2⟩ := bcell hb2
    have hy0 : w.heap.size < w2.heap.size := by have := hb2.size; omega
    have hy1 : w.heap.size + 1 < w2.heap.size := by have := hb2.size; omega
    have hy2 : w.heap.size + 1 + 1 < w2.heap.size := by have := hb2.size; omega
    have hB2 := hB.trans (hb2.mono (by omega))
    go_wp2_with fail
    exact bodyPost_ret (v := R3 (0, 0, 1)) (by simp [results, Try.results37, go_sem, hc, hf, hz0, hz1, hz2, hc2, hf2, hy0, hy1, hy2]) rfl ⟨ret_r3 HF.out, by go_grown⟩
  · have HF : Hid (subR a b c d = lim (a - d) (b - c)) := Lib.hid (two_t hv hu)
    obtain ⟨v1, v2, v3⟩ := vld_t hv
    obtain ⟨u1, u2, u3⟩ := vld_t hu
    go_enter Try.func37, Try.ntmps37
    go_wp2_with fail
    refine (rvalid_any _ _ _).mono ?_
    rintro e w1 ⟨rfl, hb⟩
    obtain ⟨hc, hf⟩ := bcell hb
    have hz0 : w.heap.size < w1.heap.size := by have := hb.size; simp at this; omega
    have hz1 : w.heap.size + 1 < w1.heap.size := by have := hb.size; simp at this; omega
    have hz2 : w.heap.size + 1 + 1 < w1.heap.size := by have := hb.size; simp at this; omega
    simp only [World.size_alloc] at hc hf
    have hB := below3 hb
    go_wp2_with fail
    refine (rvalid_any _ _ _).mono ?_
    rintro e w2 ⟨rfl, hb2⟩
    obtain ⟨hc2, hf2⟩ := bcell hb2
    have hy0 : w.heap.size < w2.heap.size := by have := hb2.size; omega
    have hy1 : w.heap.size + 1 < w2.heap.size := by have := hb2.size; omega
    have hy2 : w.heap.size + 1 + 1 < w2.heap.size := by have := hb2.size; omega
    have hB2 := hB.trans (hb2.mono (by omega))
    go_wp2_with fail
    refine (checked_any _ _ _ (by omega)).mono ?_
    rintro e w3 ⟨rfl, hb3⟩
    obtain ⟨hc3, hf3⟩ := bcell hb3
    have hx2 : w.heap.size + 1 + 1 < w3.heap.size := by have := hb3.size; omega
    have hB3 := hB2.trans (hb3.mono (by omega))
    go_wp2_with fail
    exact bodyPost_ret (v := R3 (lim (a - d) (b - c))) (by simp [results, Try.results37, go_sem, hc, hf, hz0, hz1, hz2, hc2, hf2, hy0, hy1, hy2, hc3, hf3, hx2]) rfl ⟨ret_r3' HF.out, by go_grown⟩

end Go.Proofs.Ytfpjpilhblhhgaa
