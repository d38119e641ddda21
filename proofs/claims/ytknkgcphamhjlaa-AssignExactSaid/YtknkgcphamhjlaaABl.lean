/-
  Stage 16: lists of bools of the call's own; lists of numbers that the call makes.
-/
import Derived.Test.YtknkgcphamhjlaaWApp
set_option linter.unusedSimpArgs false
set_option linter.unusedVariables false
namespace Go.Proofs.Ytknkgcphamhjlaa
open Go.RowKit Go.Lib

/-- Block b is the set bs. -/
def BSet (w : World) (b : Nat) (bs : List Bool) : Prop := w.heap[b]? = some (.cells (bs.map Value.bool).toArray 4 (0, 0))
theorem BSet.lt {w : World} {b : Nat} {bs : List Bool} (h : BSet w b bs) : b < w.heap.size := (Array.getElem?_eq_some_iff.1 h).1
theorem BSet.below {w w' : World} {b B : Nat} {bs : List Bool} (h : BSet w b bs) (k : Below B w w') (hb : b < B) : BSet w' b bs := (k.block b hb).trans h
theorem BSet.drewN {w : World} {b : Nat} {bs : List Bool} (h : BSet w b bs) (n : Nat) : BSet (w.drewN n) b bs := h
theorem BSet.cell {w : World} {b : Nat} {bs : List Bool} (h : BSet w b bs) (j : Nat) (hj : j < bs.length) : w.cell? ⟨b, j, none⟩ = some (.bool (bs.getD j false)) := by
  unfold World.cell?
  rw [h]
  simp [hj]
theorem BSet.frozen {w : World} {b : Nat} {bs : List Bool} (h : BSet w b bs) (j : Nat) : w.frozen? ⟨b, j, none⟩ = false := frozen_of_row w b j _ 4 h
theorem BSet.set {w : World} {b : Nat} {bs : List Bool} (h : BSet w b bs) (j : Nat) (x : Bool) : BSet (w.setCell ⟨b, j, none⟩ (.bool x)) b (bs.set j x) := by
  have := heap_setCell_same w b j _ 4 (.bool x) h
  unfold BSet
  rw [this]
  simp
theorem BSet.new (w : World) (bs : List Bool) (b : Nat) (hb : b = w.heap.size) : BSet (w.alloc (.cells (bs.map Value.bool).toArray 4)) b bs := by subst hb; exact heap_alloc_new w _
theorem infoBool : (Try.prog.info? 4).map (fun i => (i.zero, i.size, i.bytes)) = some (some (.bool false), 1, 1) := by kernel_rfl
theorem make_bools (w : World) (X : Nat) (hX : X ≤ 1000) : (Instr.makeSlice 41 (.int .i64 (X : Int)) (.int .i64 (X : Int))).run Try.prog w = .ok (.slice (some ⟨w.heap.size, 0, none⟩) X X) (w.alloc (.cells ((List.replicate X false).map Value.bool).toArray 4)) := by
  obtain ⟨i0, hi, hz0, hz1, hz2⟩ := info_parts infoBool
  have h := run_make (P := Try.prog) w 41 4 i0 (.bool false) Try.underlying41 hi hz0 .i64 .i64 (X : Int) (X : Int) (by omega) (Int.le_refl _) (by rw [hz2]; omega) (by omega)
  rw [hz1, Int.toNat_natCast] at h
  have e : madeCells (Value.bool false).cells (X * 1) = ((List.replicate X false).map Value.bool).toArray := by
    rw [Nat.mul_one, List.map_replicate]
    apply Array.ext'
    refine List.ext_getElem? fun j => ?_
    unfold madeCells
    by_cases h : j < X
    · simp [h, Nat.mod_one, Value.cells]
    · simp [h]
  rw [e] at h
  exact h
theorem make_intsA (w : World) (X : Nat) (hX : X ≤ 1000) : (Instr.makeSlice 22 (.int .i64 (X : Int)) (.int .i64 (X : Int))).run Try.prog w = .ok (.slice (some ⟨w.heap.size, 0, none⟩) X X) (w.alloc (.cells ((List.replicate X 0).map (Value.int .i64)).toArray 3)) := by
  obtain ⟨i0, hi, hz0, hz1, hz2⟩ := info_parts infoIntW
  have h := run_make (P := Try.prog) w 22 3 i0 (.int .i64 0) Try.underlying22 hi hz0 .i64 .i64 (X : Int) (X : Int) (by omega) (Int.le_refl _) (by rw [hz2]; omega) (by omega)
  rw [hz1, Int.toNat_natCast] at h
  have e : madeCells (Value.int .i64 0).cells (X * 1) = ((List.replicate X 0).map (Value.int .i64)).toArray := by
    rw [Nat.mul_one, List.map_replicate]
    apply Array.ext'
    refine List.ext_getElem? fun j => ?_
    unfold madeCells
    by_cases h : j < X
    · simp [h, Nat.mod_one, Value.cells]
    · simp [h]
  rw [e] at h
  exact h
end Go.Proofs.Ytknkgcphamhjlaa
