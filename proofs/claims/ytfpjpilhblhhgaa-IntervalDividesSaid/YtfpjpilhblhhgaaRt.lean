/-
  The contracts of Root: the program's and the reference's.
-/
import Derived.Test.YtfpjpilhblhhgaaFlr
set_option linter.unusedSimpArgs false
set_option linter.unusedVariables false
namespace Go.Proofs.Ytfpjpilhblhhgaa
open Go.RowKit

/-- The root rounded up. -/
def usq (n : Int) : Int := if isq n * isq n < n then isq n + 1 else isq n
def rootR (lo hi : Int) : Int × Int × Int := if vld lo hi = true then (if lo < 0 then (0, 0, 2) else (isq lo, usq hi, 0)) else (0, 0, 1)

set_option maxHeartbeats 400000 in
theorem root_any (lo hi : Int) (w : World) :
    Calls Try.prog 28 #[ivl lo hi] w fun e w' => e = .returned (R3 (rootR lo hi)) ∧ Below w.heap.size w w' := by
  cases hv : vld lo hi
  · have HF : Hid (rootR lo hi = (0, 0, 1)) := Lib.hid (if_neg (by simp [hv]))
    go_enter Try.func28, Try.ntmps28
    go_wp2_with fail
    refine (valid_any _ _ _).mono ?_
    rintro e w1 ⟨rfl, hb⟩
    obtain ⟨hc, hf⟩ := bcell hb
    have hz : w.heap.size + 1 < w1.heap.size := by have := hb.size; simp at this; omega
    simp only [World.size_alloc] at hc hf
    go_wp2_with fail
    have hB := below2 hb
    exact bodyPost_ret (v := R3 (0, 0, 1)) (by simp [results, Try.results28, go_sem, hc, hf, hz]) rfl ⟨ret_r3 HF.out, by go_grown⟩
  · have ⟨v1, v2, v3⟩ := vld_t hv
    by_cases h0 : lo < 0
    · have HF : Hid (rootR lo hi = (0, 0, 2)) := Lib.hid (by unfold rootR; rw [if_pos hv, if_pos h0])
      go_enter Try.func28, Try.ntmps28
      go_wp2_with fail
      refine (valid_any _ _ _).mono ?_
      rintro e w1 ⟨rfl, hb⟩
      obtain ⟨hc, hf⟩ := bcell hb
      have hz : w.heap.size + 1 < w1.heap.size := by have := hb.size; simp at this; omega
      simp only [World.size_alloc] at hc hf
      go_wp2_with fail
      have hB := below2 hb
      exact bodyPost_ret (v := R3 (0, 0, 2)) (by simp [results, Try.results28, go_sem, hc, hf, hz]) rfl ⟨ret_r3 HF.out, by go_grown⟩
    · have HF : Hid (rootR lo hi = (isq lo, usq hi, 0)) := Lib.hid (by unfold rootR; rw [if_pos hv, if_neg h0])
      have g1 := isq_nonneg hi
      have g2 := isq_bd (n := hi) (by omega) v3
      have g3 : 0 ≤ isq hi * isq hi := Int.mul_nonneg g1 g1
      have g4 : isq hi * isq hi ≤ hi := isq_le (by omega)
      by_cases hs : isq hi * isq hi < hi
      all_goals
        go_enter Try.func28, Try.ntmps28
        go_wp2_with fail
        refine (valid_any _ _ _).mono ?_
        rintro e w1 ⟨rfl, hb⟩
        obtain ⟨hc, hf⟩ := bcell hb
        have hz : w.heap.size + 1 < w1.heap.size := by have := hb.size; simp at this; omega
        simp only [World.size_alloc] at hc hf
        go_wp2_with fail
        go_quiet ((go_at_call 49; exact Calls.quiet_of_same ((floorRoot_any _ _ (by omega) (by omega)).mono fun _ _ h => ⟨h.1, h.2.symm⟩)))
        go_wp2_with fail
        have hB := below2 hb
        first
          | exact bodyPost_ret (v := R3 (isq lo, isq hi + 1, 0)) (by simp [results, Try.results28, go_sem, hc, hf, hz]) rfl ⟨ret_r3 (by rw [HF.out]; unfold usq; rw [if_pos hs]), ((bdn hB).setCell (by simp) _).setCell (by simp) _⟩
          | exact bodyPost_ret (v := R3 (isq lo, isq hi, 0)) (by simp [results, Try.results28, go_sem, hc, hf, hz]) rfl ⟨ret_r3 (by rw [HF.out]; unfold usq; rw [if_neg (by omega)]), ((bdn hB).setCell (by simp) _).setCell (by simp) _⟩

end Go.Proofs.Ytfpjpilhblhhgaa
