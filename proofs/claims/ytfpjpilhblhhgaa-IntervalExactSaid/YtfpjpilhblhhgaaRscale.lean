/-
  The reference's Root and Scale.
-/
import Derived.Test.YtfpjpilhblhhgaaRmul
import Derived.Test.YtfpjpilhblhhgaaContMath
set_option linter.unusedSimpArgs false
set_option linter.unusedVariables false
namespace Go.Proofs.Ytfpjpilhblhhgaa
open Go.RowKit

set_option maxHeartbeats 400000 in
theorem rootUp_any (n : Int) (w : World) (h0 : 0 ≤ n) (h1 : n ≤ 1000000000000) :
    Calls Try.prog 53 #[.int .i64 n] w fun e w' => e = .returned (.int .i64 (usq n)) ∧ w = w' := by
  obtain ⟨g1, g2, g3, g4, g5, g6⟩ := isq_spec n h0 h1
  clear g5 g6
  by_cases h : isq n * isq n < n
  all_goals
    go_enter Try.func53, Try.ntmps53
    go_wp2_with fail
    refine (rootDown_any _ _ h0 h1).mono ?_
    rintro e w' ⟨rfl, rfl⟩
    go_wp2_with fail
    go_ret
    exact ⟨ret_int (by unfold usq; first | rw [if_pos h] | rw [if_neg (by omega)]), rfl⟩

set_option maxHeartbeats 800000 in
theorem rroot_any (lo hi : Int) (w : World) :
    Calls Try.prog 40 #[ivl lo hi] w fun e w' => e = .returned (R3 (rootR lo hi)) ∧ Below w.heap.size w w' := by
  cases hv : vld lo hi
  · have HF : Hid (rootR lo hi = (0, 0, 1)) := Lib.hid (if_neg (by simp [hv]))
    go_enter Try.func40, Try.ntmps40
    go_wp2_with fail
    refine (rvalid_any _ _ _).mono ?_
    rintro e w1 ⟨rfl, hb⟩
    obtain ⟨hc, hf⟩ := bcell hb
    have hz : w.heap.size + 1 < w1.heap.size := by have := hb.size; simp at this; omega
    simp only [World.size_alloc] at hc hf
    go_wp2_with fail
    have hB := below2 hb
    exact bodyPost_ret (v := R3 (0, 0, 1)) (by simp [results, Try.results40, go_sem, hc, hf, hz]) rfl ⟨ret_r3 HF.out, by go_grown⟩
  · have ⟨v1, v2, v3⟩ := vld_t hv
    by_cases h0 : lo < 0
    · have HF : Hid (rootR lo hi = (0, 0, 2)) := Lib.hid (by unfold rootR; rw [if_pos hv, if_pos h0])
      go_enter Try.func40, Try.ntmps40
      go_wp2_with fail
      refine (rvalid_any _ _ _).mono ?_
      rintro e w1 ⟨rfl, hb⟩
      obtain ⟨hc, hf⟩ := bcell hb
      have hz : w.heap.size + 1 < w1.heap.size := by have := hb.size; simp at this; omega
      simp only [World.size_alloc] at hc hf
      go_wp2_with fail
      have hB := below2 hb
      exact bodyPost_ret (v := R3 (0, 0, 2)) (by simp [results, Try.results40, go_sem, hc, hf, hz]) rfl ⟨ret_r3 HF.out, by go_grown⟩
    · have HF : Hid (rootR lo hi = (isq lo, usq hi, 0)) := Lib.hid (by unfold rootR; rw [if_pos hv, if_neg h0])
      go_enter Try.func40, Try.ntmps40
      go_wp2_with fail
      refine (rvalid_any _ _ _).mono ?_
      rintro e w1 ⟨rfl, hb⟩
      obtain ⟨hc, hf⟩ := bcell hb
      have hz : w.heap.size + 1 < w1.heap.size := by have := hb.size; simp at this; omega
      have hz0 : w.heap.size < w1.heap.size := by omega
      simp only [World.size_alloc] at hc hf
      have hB := below2 hb
      have x0 : w1.cell? ⟨w.heap.size, 0, none⟩ = some (.int .i64 lo) := by rw [hc _ _ (by omega)]; go_cell
      have x1 : w1.cell? ⟨w.heap.size, 1, none⟩ = some (.int .i64 hi) := by rw [hc _ _ (by omega)]; go_cell
      have z0 : w1.cell? ⟨w.heap.size + 1, 0, none⟩ = some (.int .i64 0) := by rw [hc _ _ (by omega)]; go_cell
      have z1 : w1.cell? ⟨w.heap.size + 1, 1, none⟩ = some (.int .i64 0) := by rw [hc _ _ (by omega)]; go_cell
      have f0 : w1.frozen? ⟨w.heap.size + 1, 0, none⟩ = false := by rw [hf _ _ (by omega)]; simp [go_sem]
      have f1 : w1.frozen? ⟨w.heap.size + 1, 1, none⟩ = false := by rw [hf _ _ (by omega)]; simp [go_sem]
      clear hc hf hb
      go_wp2_with fail
      go_region_held3 (fun w' => w'.cell? ⟨w.heap.size, 0, none⟩ = some (.int .i64 lo) ∧ w'.cell? ⟨w.heap.size, 1, none⟩ = some (.int .i64 hi))
        (go_keep)
        (first
          | (go_at_call 52; refine (rootDown_any _ _ (by omega) (by omega)).mono ?_; rintro e w' ⟨rfl, rfl⟩)
          | (go_at_call 53; refine (rootUp_any _ _ (by omega) (by omega)).mono ?_; rintro e w' ⟨rfl, rfl⟩))
      all_goals
        go_wp2_with fail
        refine bodyPost_ret (v := R3 (isq lo, usq hi, 0)) (by simp [results, Try.results40, go_sem, z0, z1, f0, f1, hz, hz0]) rfl ⟨ret_r3 HF.out, ?_⟩
        repeat (first | exact hB | refine Below.setCell ?_ (by simp; try omega) _ | refine Below.drew ?_ | refine bdn ?_)


theorem lt_of_mul {x y d : Int} (hd : 0 < d) (h : x * d < y * d) : x < y := Int.lt_of_mul_lt_mul_right h (Int.le_of_lt hd)

theorem fdv_mono {x y d : Int} (hd : 0 < d) (h : x ≤ y) : fdv x d ≤ fdv y d := by
  have a1 := fdv_spec x d hd
  have a2 := fdv_spec y d hd
  have : fdv x d < fdv y d + 1 := lt_of_mul hd (by rw [Int.add_mul]; omega)
  omega
theorem cdv_mono {x y d : Int} (hd : 0 < d) (h : x ≤ y) : cdv x d ≤ cdv y d := by
  have a1 := cdv_spec x d hd
  have a2 := cdv_spec y d hd
  have : cdv x d - 1 < cdv y d := lt_of_mul hd (by rw [Int.sub_mul]; omega)
  omega
theorem fdv_cdv {x d : Int} (hd : 0 < d) : fdv x d ≤ cdv x d := by
  have a1 := fdv_spec x d hd
  have a2 := cdv_spec x d hd
  have : fdv x d < cdv x d + 1 := lt_of_mul hd (by rw [Int.add_mul]; omega)
  omega

/-- For whatever divisor but 0: ordered as the divisor's sign says. -/
theorem div_order {x y d : Int} (hd : d ≠ 0) (h : if d < 0 then y ≤ x else x ≤ y) : fdv x d ≤ fdv y d ∧ cdv x d ≤ cdv y d ∧ fdv x d ≤ cdv x d ∧ fdv y d ≤ cdv y d := by
  by_cases g : d < 0
  · rw [if_pos g] at h
    have eF : ∀ z, fdv z d = fdv (-z) (-d) := fun z => (fdv_neg z d hd).symm
    have eC : ∀ z, cdv z d = cdv (-z) (-d) := fun z => (cdv_neg z d hd).symm
    rw [eF x, eF y, eC x, eC y]
    exact ⟨fdv_mono (by omega) (by omega), cdv_mono (by omega) (by omega), fdv_cdv (by omega), fdv_cdv (by omega)⟩
  · rw [if_neg g] at h
    exact ⟨fdv_mono (by omega) h, cdv_mono (by omega) h, fdv_cdv (by omega), fdv_cdv (by omega)⟩

theorem scl_lim {x y d : Int} (h0 : d ≠ 0) (h : fdv x d ≤ cdv y d) : scl x y d = lim (fdv x d) (cdv y d) := by
  have e1 : flr x d = bnd (fdv x d) := if_neg h0
  have e2 : cil y d = bnd (cdv y d) := if_neg h0
  unfold scl
  rw [e1, e2]
  unfold lim bnd
  by_cases g1 : -1000000000000 ≤ fdv x d ∧ fdv x d ≤ 1000000000000
  · by_cases g2 : -1000000000000 ≤ cdv y d ∧ cdv y d ≤ 1000000000000
    · rw [if_pos g1, if_pos g2, if_pos (vld_mk (by omega))]; rfl
    · rw [if_pos g1, if_neg g2, vld_no (lo := fdv x d) (hi := cdv y d) (by omega)]; simp
  · rw [if_neg g1, vld_no (lo := fdv x d) (hi := cdv y d) (by omega)]; simp

/-- The reference's way to the same result. -/
theorem scale_ref (a b num den : Int) (hv : vld a b = true) (hn : fct num = true) (hd : fct den = true) (h0 : den ≠ 0) :
    scaleR a b num den = lim (min2 (fdv (a * num) den) (fdv (b * num) den)) (max2 (cdv (a * num) den) (cdv (b * num) den)) ∧
    min2 (fdv (a * num) den) (fdv (b * num) den) ≤ max2 (cdv (a * num) den) (cdv (b * num) den) := by
  have v := vld_t hv
  unfold scaleR
  rw [if_neg (by simp [hv]), if_neg (by simp [hn, hd]), if_neg h0]
  by_cases g : num < 0
  · have m : b * num ≤ a * num := Int.mul_le_mul_of_nonpos_right v.2.1 (by omega)
    have sn : decide (num < 0) = true := decide_eq_true g
    by_cases k : den < 0
    · have sd : decide (den < 0) = true := decide_eq_true k
      obtain ⟨o1, o2, o3, o4⟩ := div_order (x := a * num) (y := b * num) h0 (by rw [if_pos k]; exact m)
      rw [sn, sd, if_pos rfl, scl_lim h0 (by omega)]
      have e1 : min2 (fdv (a * num) den) (fdv (b * num) den) = fdv (a * num) den := by unfold min2; omega
      have e2 : max2 (cdv (a * num) den) (cdv (b * num) den) = cdv (b * num) den := by unfold max2; omega
      rw [e1, e2]; exact ⟨rfl, by omega⟩
    · have sd : decide (den < 0) = false := decide_eq_false k
      obtain ⟨o1, o2, o3, o4⟩ := div_order (x := b * num) (y := a * num) h0 (by rw [if_neg k]; exact m)
      rw [sn, sd, if_neg (by simp), scl_lim h0 (by omega)]
      have e1 : min2 (fdv (a * num) den) (fdv (b * num) den) = fdv (b * num) den := by unfold min2; omega
      have e2 : max2 (cdv (a * num) den) (cdv (b * num) den) = cdv (a * num) den := by unfold max2; omega
      rw [e1, e2]; exact ⟨rfl, by omega⟩
  · have m : a * num ≤ b * num := Int.mul_le_mul_of_nonneg_right v.2.1 (by omega)
    have sn : decide (num < 0) = false := decide_eq_false g
    by_cases k : den < 0
    · have sd : decide (den < 0) = true := decide_eq_true k
      obtain ⟨o1, o2, o3, o4⟩ := div_order (x := b * num) (y := a * num) h0 (by rw [if_pos k]; exact m)
      rw [sn, sd, if_neg (by simp), scl_lim h0 (by omega)]
      have e1 : min2 (fdv (a * num) den) (fdv (b * num) den) = fdv (b * num) den := by unfold min2; omega
      have e2 : max2 (cdv (a * num) den) (cdv (b * num) den) = cdv (a * num) den := by unfold max2; omega
      rw [e1, e2]; exact ⟨rfl, by omega⟩
    · have sd : decide (den < 0) = false := decide_eq_false k
      obtain ⟨o1, o2, o3, o4⟩ := div_order (x := a * num) (y := b * num) h0 (by rw [if_neg k]; exact m)
      rw [sn, sd, if_pos rfl, scl_lim h0 (by omega)]
      have e1 : min2 (fdv (a * num) den) (fdv (b * num) den) = fdv (a * num) den := by unfold min2; omega
      have e2 : max2 (cdv (a * num) den) (cdv (b * num) den) = cdv (b * num) den := by unfold max2; omega
      rw [e1, e2]; exact ⟨rfl, by omega⟩


set_option maxHeartbeats 800000 in
theorem rscale_bad1 (a b num den : Int) (w : World) (hv : vld a b = false) :
    Calls Try.prog 39 #[ivl a b, .int .i64 num, .int .i64 den] w fun e w' => e = .returned (R3 (0, 0, 1)) ∧ Below w.heap.size w w' := by
  go_enter Try.func39, Try.ntmps39
  go_wp2_with fail
  refine (rvalid_any _ _ _).mono ?_
  rintro e w1 ⟨rfl, hb⟩
  obtain ⟨hc, hf⟩ := bcell hb
  have hz : w.heap.size + 1 < w1.heap.size := by have := hb.size; simp at this; omega
  have hz0 : w.heap.size < w1.heap.size := by omega
  simp only [World.size_alloc] at hc hf
  have hB := below2 hb
  have x0 : w1.cell? ⟨w.heap.size, 0, none⟩ = some (.int .i64 a) := by rw [hc _ _ (by omega)]; go_cell
  have x1 : w1.cell? ⟨w.heap.size, 1, none⟩ = some (.int .i64 b) := by rw [hc _ _ (by omega)]; go_cell
  have z0 : w1.cell? ⟨w.heap.size + 1, 0, none⟩ = some (.int .i64 0) := by rw [hc _ _ (by omega)]; go_cell
  have z1 : w1.cell? ⟨w.heap.size + 1, 1, none⟩ = some (.int .i64 0) := by rw [hc _ _ (by omega)]; go_cell
  have f0 : w1.frozen? ⟨w.heap.size + 1, 0, none⟩ = false := by rw [hf _ _ (by omega)]; simp [go_sem]
  have f1 : w1.frozen? ⟨w.heap.size + 1, 1, none⟩ = false := by rw [hf _ _ (by omega)]; simp [go_sem]
  clear hc hf hb
  go_wp2_with fail
  exact bodyPost_ret (v := R3 (0, 0, 1)) (by simp [results, Try.results39, go_sem, z0, z1, f0, f1, hz, hz0]) rfl ⟨rfl, by go_grown⟩

set_option maxHeartbeats 800000 in
theorem rscale_r1 (a b num den : Int) (w : World) (hv : vld a b = true) (h1 : num < -1000000) :
    Calls Try.prog 39 #[ivl a b, .int .i64 num, .int .i64 den] w fun e w' => e = .returned (R3 (0, 0, 2)) ∧ Below w.heap.size w w' := by
  go_enter Try.func39, Try.ntmps39
  go_wp2_with fail
  refine (rvalid_any _ _ _).mono ?_
  rintro e w1 ⟨rfl, hb⟩
  obtain ⟨hc, hf⟩ := bcell hb
  have hz : w.heap.size + 1 < w1.heap.size := by have := hb.size; simp at this; omega
  have hz0 : w.heap.size < w1.heap.size := by omega
  simp only [World.size_alloc] at hc hf
  have hB := below2 hb
  have x0 : w1.cell? ⟨w.heap.size, 0, none⟩ = some (.int .i64 a) := by rw [hc _ _ (by omega)]; go_cell
  have x1 : w1.cell? ⟨w.heap.size, 1, none⟩ = some (.int .i64 b) := by rw [hc _ _ (by omega)]; go_cell
  have z0 : w1.cell? ⟨w.heap.size + 1, 0, none⟩ = some (.int .i64 0) := by rw [hc _ _ (by omega)]; go_cell
  have z1 : w1.cell? ⟨w.heap.size + 1, 1, none⟩ = some (.int .i64 0) := by rw [hc _ _ (by omega)]; go_cell
  have f0 : w1.frozen? ⟨w.heap.size + 1, 0, none⟩ = false := by rw [hf _ _ (by omega)]; simp [go_sem]
  have f1 : w1.frozen? ⟨w.heap.size + 1, 1, none⟩ = false := by rw [hf _ _ (by omega)]; simp [go_sem]
  clear hc hf hb
  go_wp2_with fail
  exact bodyPost_ret (v := R3 (0, 0, 2)) (by simp [results, Try.results39, go_sem, z0, z1, f0, f1, hz, hz0]) rfl ⟨rfl, by go_grown⟩

set_option maxHeartbeats 800000 in
theorem rscale_r2 (a b num den : Int) (w : World) (hv : vld a b = true) (h1 : ¬ num < -1000000) (h2 : 1000000 < num) :
    Calls Try.prog 39 #[ivl a b, .int .i64 num, .int .i64 den] w fun e w' => e = .returned (R3 (0, 0, 2)) ∧ Below w.heap.size w w' := by
  go_enter Try.func39, Try.ntmps39
  go_wp2_with fail
  refine (rvalid_any _ _ _).mono ?_
  rintro e w1 ⟨rfl, hb⟩
  obtain ⟨hc, hf⟩ := bcell hb
  have hz : w.heap.size + 1 < w1.heap.size := by have := hb.size; simp at this; omega
  have hz0 : w.heap.size < w1.heap.size := by omega
  simp only [World.size_alloc] at hc hf
  have hB := below2 hb
  have x0 : w1.cell? ⟨w.heap.size, 0, none⟩ = some (.int .i64 a) := by rw [hc _ _ (by omega)]; go_cell
  have x1 : w1.cell? ⟨w.heap.size, 1, none⟩ = some (.int .i64 b) := by rw [hc _ _ (by omega)]; go_cell
  have z0 : w1.cell? ⟨w.heap.size + 1, 0, none⟩ = some (.int .i64 0) := by rw [hc _ _ (by omega)]; go_cell
  have z1 : w1.cell? ⟨w.heap.size + 1, 1, none⟩ = some (.int .i64 0) := by rw [hc _ _ (by omega)]; go_cell
  have f0 : w1.frozen? ⟨w.heap.size + 1, 0, none⟩ = false := by rw [hf _ _ (by omega)]; simp [go_sem]
  have f1 : w1.frozen? ⟨w.heap.size + 1, 1, none⟩ = false := by rw [hf _ _ (by omega)]; simp [go_sem]
  clear hc hf hb
  go_wp2_with fail
  exact bodyPost_ret (v := R3 (0, 0, 2)) (by simp [results, Try.results39, go_sem, z0, z1, f0, f1, hz, hz0]) rfl ⟨rfl, by go_grown⟩

set_option maxHeartbeats 800000 in
theorem rscale_r3 (a b num den : Int) (w : World) (hv : vld a b = true) (h1 : ¬ num < -1000000) (h2 : ¬ 1000000 < num) (h3 : den < -1000000) :
    Calls Try.prog 39 #[ivl a b, .int .i64 num, .int .i64 den] w fun e w' => e = .returned (R3 (0, 0, 2)) ∧ Below w.heap.size w w' := by
  go_enter Try.func39, Try.ntmps39
  go_wp2_with fail
  refine (rvalid_any _ _ _).mono ?_
  rintro e w1 ⟨rfl, hb⟩
  obtain ⟨hc, hf⟩ := bcell hb
  have hz : w.heap.size + 1 < w1.heap.size := by have := hb.size; simp at this; omega
  have hz0 : w.heap.size < w1.heap.size := by omega
  simp only [World.size_alloc] at hc hf
  have hB := below2 hb
  have x0 : w1.cell? ⟨w.heap.size, 0, none⟩ = some (.int .i64 a) := by rw [hc _ _ (by omega)]; go_cell
  have x1 : w1.cell? ⟨w.heap.size, 1, none⟩ = some (.int .i64 b) := by rw [hc _ _ (by omega)]; go_cell
  have z0 : w1.cell? ⟨w.heap.size + 1, 0, none⟩ = some (.int .i64 0) := by rw [hc _ _ (by omega)]; go_cell
  have z1 : w1.cell? ⟨w.heap.size + 1, 1, none⟩ = some (.int .i64 0) := by rw [hc _ _ (by omega)]; go_cell
  have f0 : w1.frozen? ⟨w.heap.size + 1, 0, none⟩ = false := by rw [hf _ _ (by omega)]; simp [go_sem]
  have f1 : w1.frozen? ⟨w.heap.size + 1, 1, none⟩ = false := by rw [hf _ _ (by omega)]; simp [go_sem]
  clear hc hf hb
  go_wp2_with fail
  exact bodyPost_ret (v := R3 (0, 0, 2)) (by simp [results, Try.results39, go_sem, z0, z1, f0, f1, hz, hz0]) rfl ⟨rfl, by go_grown⟩

set_option maxHeartbeats 800000 in
theorem rscale_r4 (a b num den : Int) (w : World) (hv : vld a b = true) (h1 : ¬ num < -1000000) (h2 : ¬ 1000000 < num) (h3 : ¬ den < -1000000) (h4 : 1000000 < den) :
    Calls Try.prog 39 #[ivl a b, .int .i64 num, .int .i64 den] w fun e w' => e = .returned (R3 (0, 0, 2)) ∧ Below w.heap.size w w' := by
  go_enter Try.func39, Try.ntmps39
  go_wp2_with fail
  refine (rvalid_any _ _ _).mono ?_
  rintro e w1 ⟨rfl, hb⟩
  obtain ⟨hc, hf⟩ := bcell hb
  have hz : w.heap.size + 1 < w1.heap.size := by have := hb.size; simp at this; omega
  have hz0 : w.heap.size < w1.heap.size := by omega
  simp only [World.size_alloc] at hc hf
  have hB := below2 hb
  have x0 : w1.cell? ⟨w.heap.size, 0, none⟩ = some (.int .i64 a) := by rw [hc _ _ (by omega)]; go_cell
  have x1 : w1.cell? ⟨w.heap.size, 1, none⟩ = some (.int .i64 b) := by rw [hc _ _ (by omega)]; go_cell
  have z0 : w1.cell? ⟨w.heap.size + 1, 0, none⟩ = some (.int .i64 0) := by rw [hc _ _ (by omega)]; go_cell
  have z1 : w1.cell? ⟨w.heap.size + 1, 1, none⟩ = some (.int .i64 0) := by rw [hc _ _ (by omega)]; go_cell
  have f0 : w1.frozen? ⟨w.heap.size + 1, 0, none⟩ = false := by rw [hf _ _ (by omega)]; simp [go_sem]
  have f1 : w1.frozen? ⟨w.heap.size + 1, 1, none⟩ = false := by rw [hf _ _ (by omega)]; simp [go_sem]
  clear hc hf hb
  go_wp2_with fail
  exact bodyPost_ret (v := R3 (0, 0, 2)) (by simp [results, Try.results39, go_sem, z0, z1, f0, f1, hz, hz0]) rfl ⟨rfl, by go_grown⟩

set_option maxHeartbeats 800000 in
theorem rscale_z (a b num den : Int) (w : World) (hv : vld a b = true) (h1 : ¬ num < -1000000) (h2 : ¬ 1000000 < num) (h3 : ¬ den < -1000000) (h4 : ¬ 1000000 < den) (h5 : (den == 0) = true) :
    Calls Try.prog 39 #[ivl a b, .int .i64 num, .int .i64 den] w fun e w' => e = .returned (R3 (0, 0, 5)) ∧ Below w.heap.size w w' := by
  go_enter Try.func39, Try.ntmps39
  go_wp2_with fail
  refine (rvalid_any _ _ _).mono ?_
  rintro e w1 ⟨rfl, hb⟩
  obtain ⟨hc, hf⟩ := bcell hb
  have hz : w.heap.size + 1 < w1.heap.size := by have := hb.size; simp at this; omega
  have hz0 : w.heap.size < w1.heap.size := by omega
  simp only [World.size_alloc] at hc hf
  have hB := below2 hb
  have x0 : w1.cell? ⟨w.heap.size, 0, none⟩ = some (.int .i64 a) := by rw [hc _ _ (by omega)]; go_cell
  have x1 : w1.cell? ⟨w.heap.size, 1, none⟩ = some (.int .i64 b) := by rw [hc _ _ (by omega)]; go_cell
  have z0 : w1.cell? ⟨w.heap.size + 1, 0, none⟩ = some (.int .i64 0) := by rw [hc _ _ (by omega)]; go_cell
  have z1 : w1.cell? ⟨w.heap.size + 1, 1, none⟩ = some (.int .i64 0) := by rw [hc _ _ (by omega)]; go_cell
  have f0 : w1.frozen? ⟨w.heap.size + 1, 0, none⟩ = false := by rw [hf _ _ (by omega)]; simp [go_sem]
  have f1 : w1.frozen? ⟨w.heap.size + 1, 1, none⟩ = false := by rw [hf _ _ (by omega)]; simp [go_sem]
  clear hc hf hb
  go_wp2_with fail
  exact bodyPost_ret (v := R3 (0, 0, 5)) (by simp [results, Try.results39, go_sem, z0, z1, f0, f1, hz, hz0]) rfl ⟨rfl, by go_grown⟩

set_option maxHeartbeats 800000 in
theorem rscale_ok (a b num den : Int) (w : World) (hv : vld a b = true) (h1 : ¬ num < -1000000) (h2 : ¬ 1000000 < num) (h3 : ¬ den < -1000000) (h4 : ¬ 1000000 < den) (h0 : den ≠ 0) (hl : min2 (fdv (a * num) den) (fdv (b * num) den) ≤ max2 (cdv (a * num) den) (cdv (b * num) den)) :
    Calls Try.prog 39 #[ivl a b, .int .i64 num, .int .i64 den] w fun e w' => e = .returned (R3 (lim (min2 (fdv (a * num) den) (fdv (b * num) den)) (max2 (cdv (a * num) den) (cdv (b * num) den)))) ∧ Below w.heap.size w w' := by
  obtain ⟨v1, v2, v3⟩ := vld_t hv
  obtain ⟨p1, p2⟩ := mul_bd a num (by omega) (by omega) (by omega) (by omega)
  obtain ⟨p3, p4⟩ := mul_bd b num (by omega) (by omega) (by omega) (by omega)
  have HD := Lib.hid h0
  have HL := Lib.hid hl
  have h5 : (den == 0) = false := beq_eq_false_iff_ne.2 h0
  have hmin := @run_min2 Try.prog
  have hmax := @run_max2 Try.prog
  clear h0 hl
  go_enter Try.func39, Try.ntmps39
  go_wp2_with fail
  refine (rvalid_any _ _ _).mono ?_
  rintro e w1 ⟨rfl, hb⟩
  obtain ⟨hc, hf⟩ := bcell hb
  have hz : w.heap.size + 1 < w1.heap.size := by have := hb.size; simp at this; omega
  have hz0 : w.heap.size < w1.heap.size := by omega
  simp only [World.size_alloc] at hc hf
  have hB := below2 hb
  have x0 : w1.cell? ⟨w.heap.size, 0, none⟩ = some (.int .i64 a) := by rw [hc _ _ (by omega)]; go_cell
  have x1 : w1.cell? ⟨w.heap.size, 1, none⟩ = some (.int .i64 b) := by rw [hc _ _ (by omega)]; go_cell
  have z0 : w1.cell? ⟨w.heap.size + 1, 0, none⟩ = some (.int .i64 0) := by rw [hc _ _ (by omega)]; go_cell
  have z1 : w1.cell? ⟨w.heap.size + 1, 1, none⟩ = some (.int .i64 0) := by rw [hc _ _ (by omega)]; go_cell
  have f0 : w1.frozen? ⟨w.heap.size + 1, 0, none⟩ = false := by rw [hf _ _ (by omega)]; simp [go_sem]
  have f1 : w1.frozen? ⟨w.heap.size + 1, 1, none⟩ = false := by rw [hf _ _ (by omega)]; simp [go_sem]
  clear hc hf hb
  have WZ1 : IntKind.i64.wrap (a * num) = a * num := IntWalk.i64_in _ (by omega)
  have WZ2 : IntKind.i64.wrap (b * num) = b * num := IntWalk.i64_in _ (by omega)
  go_wp2_with fail
  go_quiet (fail)
  clear WZ1 WZ2
  go_wp2_with fail
  refine (down_any (a * num) den _ HD.out (by omega) (by omega) (by omega)).mono ?_
  rintro e wx ⟨rfl, n0, rfl⟩
  go_wp2_with fail
  refine (down_any (b * num) den _ HD.out (by omega) (by omega) (by omega)).mono ?_
  rintro e wx ⟨rfl, n1, rfl⟩
  go_wp2_with fail
  refine (up_any (a * num) den _ HD.out (by omega) (by omega) (by omega)).mono ?_
  rintro e wx ⟨rfl, n2, rfl⟩
  go_wp2_with fail
  refine (up_any (b * num) den _ HD.out (by omega) (by omega) (by omega)).mono ?_
  rintro e wx ⟨rfl, n3, rfl⟩
  go_wp2_with fail
  refine (checked_any _ _ _ HL.out).mono ?_
  rintro e w3 ⟨rfl, hb3⟩
  obtain ⟨hc3, hf3⟩ := bcell hb3
  have hz3 : w.heap.size + 1 < w3.heap.size := by have := hb3.size; simp at this; omega
  have zz0 : w3.cell? ⟨w.heap.size + 1, 0, none⟩ = some (.int .i64 0) := (hc3 _ _ hz).trans z0
  have zz1 : w3.cell? ⟨w.heap.size + 1, 1, none⟩ = some (.int .i64 0) := (hc3 _ _ hz).trans z1
  have ff0 : w3.frozen? ⟨w.heap.size + 1, 0, none⟩ = false := (hf3 _ _ hz).trans f0
  have ff1 : w3.frozen? ⟨w.heap.size + 1, 1, none⟩ = false := (hf3 _ _ hz).trans f1
  clear hc3 hf3
  have hB3 := (bdn hB).trans (hb3.mono (by simp; omega))
  go_wp2_with fail
  exact bodyPost_ret (v := R3 (lim (min2 (fdv (a * num) den) (fdv (b * num) den)) (max2 (cdv (a * num) den) (cdv (b * num) den)))) (by simp [results, Try.results39, go_sem, zz0, zz1, ff0, ff1, hz3]) rfl ⟨rfl, by go_grown⟩

theorem rscale_any (a b num den : Int) (w : World) :
    Calls Try.prog 39 #[ivl a b, .int .i64 num, .int .i64 den] w fun e w' => e = .returned (R3 (scaleR a b num den)) ∧ Below w.heap.size w w' := by
  cases hv : vld a b
  · unfold scaleR; rw [if_pos hv]; exact rscale_bad1 a b num den w hv
  have hv' : ¬ vld a b = false := by rw [hv]; simp
  by_cases h1 : num < -1000000
  · unfold scaleR; rw [if_neg hv', if_pos (Or.inl (show fct num = false from decide_eq_false (by omega)))]; exact rscale_r1 a b num den w hv h1
  by_cases h2 : 1000000 < num
  · unfold scaleR; rw [if_neg hv', if_pos (Or.inl (show fct num = false from decide_eq_false (by omega)))]; exact rscale_r2 a b num den w hv h1 h2
  by_cases h3 : den < -1000000
  · unfold scaleR; rw [if_neg hv', if_pos (Or.inr (show fct den = false from decide_eq_false (by omega)))]; exact rscale_r3 a b num den w hv h1 h2 h3
  by_cases h4 : 1000000 < den
  · unfold scaleR; rw [if_neg hv', if_pos (Or.inr (show fct den = false from decide_eq_false (by omega)))]; exact rscale_r4 a b num den w hv h1 h2 h3 h4
  have hn : fct num = true := decide_eq_true ⟨by omega, by omega⟩
  have hd : fct den = true := decide_eq_true ⟨by omega, by omega⟩
  by_cases h0 : den = 0
  · unfold scaleR; rw [if_neg hv', if_neg (by simp [hn, hd]), if_pos h0]; exact rscale_z a b num den w hv h1 h2 h3 h4 (beq_iff_eq.2 h0)
  · obtain ⟨e, hl⟩ := scale_ref a b num den hv hn hd h0
    rw [e]
    exact rscale_ok a b num den w hv h1 h2 h3 h4 h0 hl

end Go.Proofs.Ytfpjpilhblhhgaa
