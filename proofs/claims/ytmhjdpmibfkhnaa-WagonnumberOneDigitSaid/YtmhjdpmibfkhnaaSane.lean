/-
  Stage 2: the laws' sanity check.
-/
import Derived.Test.YtmhjdpmibfkhnaaStrs
import Derived.Test.YtmhjdpmibfkhnaaRNum
set_option linter.unusedSimpArgs false
set_option linter.unusedVariables false
namespace Go.Proofs.Ytmhjdpmibfkhnaa
open Go.RowKit

def exA : ByteArray := ⟨#[51, 49, 56, 48, 50, 55, 55, 51, 49, 50, 51]⟩
def exB : ByteArray := ⟨#[51, 49, 56, 48, 50, 55, 55, 51, 49, 50, 51, 55]⟩
def exC : ByteArray := ⟨#[51, 49, 56, 48, 50, 55, 55, 51, 49, 50, 51, 48]⟩
def exT : ByteArray := ⟨#[51, 49, 32, 56, 48, 32, 50, 55, 55, 51, 32, 49, 50, 51, 45, 55]⟩
theorem exA_digit : digitR exA = (7, 0) := by decide
theorem exB_valid : validR exB = 0 := by decide
theorem exB_format : formatR exB = (exT, 0) := by unfold formatR; rw [if_pos exB_valid]; unfold exB; rw [fmt_12]; rfl
theorem exB_kind : kindR exB = (2, 0) := by unfold kindR; rw [if_pos exB_valid]; rfl
theorem exC_dgs : dgs exC 12 = true := by decide
theorem exC_bad : okP exC = false := by decide
theorem exC_reps : 12 ≤ (repsP exC).1.length ∧ (repsP exC).2 = 0 := by
  unfold repsP
  rw [if_pos exC_dgs]
  exact ⟨by rw [srtB_len]; exact twelve_reps exC_dgs exC_bad, rfl⟩

set_option maxHeartbeats 800000 in
theorem sane_any (w : World) : Calls Try.prog 15 #[] w fun e w' => e = .returned (.bool true) ∧ Below w.heap.size w w' := by
  go_enter Try.func15, Try.ntmps15
  go_wp2_with fail
  refine (pdigit_any exA _).mono ?_
  rintro e w' ⟨rfl, rfl⟩
  rw [exA_digit]
  go_wp2_with fail
  refine (pformat_any exB _).mono ?_
  rintro e w' ⟨rfl, n, rfl⟩
  rw [exB_format]
  go_wp2_with fail
  refine (pkind_any exB _).mono ?_
  rintro e w' ⟨rfl, rfl⟩
  rw [exB_kind]
  go_wp2_with fail
  refine (prepairs_any exC _).mono ?_
  rintro e w' ⟨v, rfl, O, B⟩
  obtain ⟨l1, l2⟩ := exC_reps
  rw [l2]
  obtain ⟨a, cap, rfl⟩ := O.len
  have hT : exT.toList = [51, 49, 32, 56, 48, 32, 50, 55, 55, 51, 32, 49, 50, 51, 45, 55] := by rw [ByteArray.toList_eq]; rfl
  have l3 : (12 : Int) ≤ ((repsP exC).1.length : Int) := by omega
  go_wp2_with fail
  go_ret
  exact ⟨rfl, ⟨B.os, B.tape, B.output, B.size, B.block⟩⟩

end Go.Proofs.Ytmhjdpmibfkhnaa
