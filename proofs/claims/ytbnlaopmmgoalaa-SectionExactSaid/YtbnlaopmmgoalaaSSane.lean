/-
  Stage 5: sane.
-/
import Derived.Test.YtbnlaopmmgoalaaSBal
import Derived.Test.YtbnlaopmmgoalaaSRef3
import Derived.Test.YtbnlaopmmgoalaaSame
set_option linter.unusedSimpArgs false
set_option linter.unusedVariables false
namespace Go.Proofs.Ytbnlaopmmgoalaa
open Go.RowKit

theorem row_new {k : IntKind} {W : World} {T : TypeId} (ys : List Int) : Row k (W.alloc (.cells (ys.map (Value.int k)).toArray T)) (W.alloc (.cells (ys.map (Value.int k)).toArray T)).heap.size (some ⟨W.heap.size, 0, none⟩) ys := fun j hj =>
  ⟨_, rfl, by simp, by rw [add_own, cell_new]; simp [hj]⟩
theorem PRow.new {W : World} {T : TypeId} (l : List Pul) (h : l.length ≤ maxLen) : PRow (W.alloc (.cells ((flatP l).map (Value.int .i64)).toArray T)) (some ⟨W.heap.size, 0, none⟩) l := ⟨row_new (flatP l), h⟩
theorem PRow.alloc {W : World} {A : Option Addr} {l : List Pul} (h : PRow W A l) (o : Obj) : PRow (W.alloc o) A l := h.below ((Below.refl _ _).alloc (Nat.le_refl _) o)
abbrev bor0 : List Pul := [(0, 1, 1), (0, 2, -1)]
abbrev pul0 : List Pul := [(1, 1, 1), (1, 2, 1), (2, 3, 1)]
abbrev pul1 : List Pul := [(2, 1, 1), (1, 2, 1)]
abbrev bor1 : List Pul := [(0, 2, -1), (1, 2, 1)]
theorem san1 : countR bor0 pul0 0 0 = (1, 0) := by decide
theorem san2 : stateR bor0 pul0 0 0 = (1, 0) := by decide
theorem san3 : countR bor0 pul1 0 0 = (0, 0) := by decide
theorem san4 : stateR bor0 pul1 0 0 = (2, 0) := by decide
theorem san5 : thrR bor1 = ([2], 0) := by decide

set_option maxHeartbeats 1600000 in
theorem sane_any (w : World) : Calls Try.prog 11 #[] w fun e w' => e = .returned (.bool true) ∧ Below w.heap.size w w' := by
  go_enter Try.func11, Try.ntmps11
  go_wp2_with fail
  have R1 : PRow ((w.alloc (.cells #[.int .i64 0, .int .i64 1, .int .i64 1, .int .i64 0, .int .i64 2, .int .i64 (-1)] 24)).alloc (.cells #[.int .i64 1, .int .i64 1, .int .i64 1, .int .i64 1, .int .i64 2, .int .i64 1, .int .i64 2, .int .i64 3, .int .i64 1] 40)) (some ⟨w.heap.size, 0, none⟩) bor0 := (PRow.new (W := w) (T := 24) bor0 (by decide)).alloc _
  have R2 : PRow ((w.alloc (.cells #[.int .i64 0, .int .i64 1, .int .i64 1, .int .i64 0, .int .i64 2, .int .i64 (-1)] 24)).alloc (.cells #[.int .i64 1, .int .i64 1, .int .i64 1, .int .i64 1, .int .i64 2, .int .i64 1, .int .i64 2, .int .i64 3, .int .i64 1] 40)) (some ⟨w.heap.size + 1, 0, none⟩) pul0 := by
    have := PRow.new (W := w.alloc (.cells #[.int .i64 0, .int .i64 1, .int .i64 1, .int .i64 0, .int .i64 2, .int .i64 (-1)] 24)) (T := 40) pul0 (by decide)
    rwa [World.size_alloc] at this
  have B0 : Below w.heap.size w ((w.alloc (.cells #[.int .i64 0, .int .i64 1, .int .i64 1, .int .i64 0, .int .i64 2, .int .i64 (-1)] 24)).alloc (.cells #[.int .i64 1, .int .i64 1, .int .i64 1, .int .i64 1, .int .i64 2, .int .i64 1, .int .i64 2, .int .i64 3, .int .i64 1] 40)) := ((Below.refl _ _).alloc (Nat.le_refl _) _).alloc (by simp) _
  generalize (w.alloc (.cells #[.int .i64 0, .int .i64 1, .int .i64 1, .int .i64 0, .int .i64 2, .int .i64 (-1)] 24)).alloc (.cells #[.int .i64 1, .int .i64 1, .int .i64 1, .int .i64 1, .int .i64 2, .int .i64 1, .int .i64 2, .int .i64 3, .int .i64 1] 40) = w0 at R1 R2 B0 ⊢
  have HR1 := Lib.hid R1
  have HR2 := Lib.hid R2
  have HB0 := Lib.hid B0
  clear R1 R2 B0
  refine (pcount_any bor0 pul0 _ _ 2 3 0 0 w0 HR1.out HR2.out).mono ?_
  rw [san1]
  rintro e w1 ⟨rfl, B1⟩
  have HR1 := Lib.hid (HR1.out.below B1)
  have HR2 := Lib.hid (HR2.out.below B1)
  have HB0 := Lib.hid (HB0.out.trans (B1.mono HB0.out.size))
  clear B1
  go_wp2_with fail
  refine (pstate_any bor0 pul0 _ _ 2 3 0 0 w1 HR1.out HR2.out).mono ?_
  rw [san2]
  rintro e w2 ⟨rfl, B1⟩
  have HR1 := Lib.hid (HR1.out.below B1)
  have HB0 := Lib.hid (HB0.out.trans (B1.mono HB0.out.size))
  have R3 := (PRow.new (W := w2) (T := 40) pul1 (by decide))
  have HR3 := Lib.hid R3
  have HR1 := Lib.hid (HR1.out.alloc (.cells #[.int .i64 2, .int .i64 1, .int .i64 1, .int .i64 1, .int .i64 2, .int .i64 1] 40))
  have HB0 := Lib.hid (HB0.out.alloc HB0.out.size (.cells #[.int .i64 2, .int .i64 1, .int .i64 1, .int .i64 1, .int .i64 2, .int .i64 1] 40))
  clear B1 R3
  go_wp2_with fail
  refine (pcount_any bor0 pul1 _ _ 2 2 0 0 _ HR1.out HR3.out).mono ?_
  rw [san3]
  rintro e w3 ⟨rfl, B1⟩
  have HR1 := Lib.hid (HR1.out.below B1)
  have HR3 := Lib.hid (HR3.out.below B1)
  have HB0 := Lib.hid (HB0.out.trans (B1.mono HB0.out.size))
  clear B1
  go_wp2_with fail
  refine (pstate_any bor0 pul1 _ _ 2 2 0 0 w3 HR1.out HR3.out).mono ?_
  rw [san4]
  rintro e w4 ⟨rfl, B1⟩
  have HB0 := Lib.hid ((HB0.out.trans (B1.mono HB0.out.size)).alloc (Nat.le_trans HB0.out.size B1.size) (.cells #[.int .i64 0, .int .i64 2, .int .i64 (-1), .int .i64 1, .int .i64 2, .int .i64 1] 24))
  have HR4 := Lib.hid (PRow.new (W := w4) (T := 24) bor1 (by decide))
  clear B1
  go_wp2_with fail
  refine (pthr_any bor1 _ 2 _ HR4.out).mono ?_
  unfold ThrPost
  rw [san5]
  rintro e w5 ⟨v, rfl, O, B1⟩
  have HB0 := Lib.hid (HB0.out.trans (B1.mono HB0.out.size))
  obtain ⟨A, c, rfl, R, _, _, _⟩ := O.slice
  have HR := Lib.hid (R.below ((Below.refl _ w5).alloc (Nat.le_refl _) (.cells #[.int .i64 2] 3)))
  have HR6 := Lib.hid (row_new (k := .i64) (W := w5) (T := 3) [2])
  have HB0 := Lib.hid (HB0.out.alloc HB0.out.size (.cells #[.int .i64 2] 3))
  clear B1 O R
  go_wp2_with fail
  refine (ints_same [2] A _ c 1 _ HR.out HR6.out (by decide)).mono ?_
  rintro e w6 ⟨rfl, n, rfl⟩
  go_wp2_with fail
  go_ret
  exact ⟨rfl, bdn HB0.out⟩
end Go.Proofs.Ytbnlaopmmgoalaa
