/-
  The contracts of the small functions of stage 1: Valid, limited, quotient, isFactor, product, and the reference's.
-/
import Derived.Test.YtfpjpilhblhhgaaRoot
import Derived.Handy
set_option linter.unusedSimpArgs false
set_option linter.unusedVariables false
namespace Go.Proofs.Ytfpjpilhblhhgaa
open Go.RowKit

/-- An interval as a value. -/
abbrev ivl (lo hi : Int) : Value := .agg #[.int .i64 lo, .int .i64 hi]
/-- What a function of intervals hands back: an interval and an error's number. -/
abbrev R3 (t : Int × Int × Int) : Value := .tuple #[.agg #[.int .i64 t.1, .int .i64 t.2.1], .int .i64 t.2.2]
/-- What a function of numbers hands back: a number and an error's number. -/
abbrev R2 (t : Int × Int) : Value := .tuple #[.int .i64 t.1, .int .i64 t.2]

theorem bcell {W w1 : World} (hb : Below W.heap.size W w1) : (∀ b o, b < W.heap.size → w1.cell? ⟨b, o, none⟩ = W.cell? ⟨b, o, none⟩) ∧ (∀ b o, b < W.heap.size → w1.frozen? ⟨b, o, none⟩ = W.frozen? ⟨b, o, none⟩) :=
  ⟨fun b o h => hb.cell (p := ⟨b, o, none⟩) h, fun b o h => hb.frozen (p := ⟨b, o, none⟩) h⟩

theorem bdn {B : Nat} {w w1 : World} {n : Nat} (h : Below B w w1) : Below B w (w1.drewN n) := ⟨h.os, h.tape, h.output, h.size, h.block⟩
theorem below1 {w w1 : World} {o1 : Obj} (hb : Below (w.alloc o1).heap.size (w.alloc o1) w1) : Below w.heap.size w w1 :=
  ((Below.refl _ _).alloc (Nat.le_refl _) o1).trans (hb.mono (by simp))
theorem below2 {w w1 : World} {o1 o2 : Obj} (hb : Below ((w.alloc o1).alloc o2).heap.size ((w.alloc o1).alloc o2) w1) : Below w.heap.size w w1 :=
  ((Below.refl _ _).alloc (Nat.le_refl _) o1).trans ((below1 hb).mono (by simp))
theorem below3 {w w1 : World} {o1 o2 o3 : Obj} (hb : Below (((w.alloc o1).alloc o2).alloc o3).heap.size (((w.alloc o1).alloc o2).alloc o3) w1) : Below w.heap.size w w1 :=
  ((Below.refl _ _).alloc (Nat.le_refl _) o1).trans ((below2 hb).mono (by simp))

/-- The interval is valid. -/
def vld (lo hi : Int) : Bool := decide (-1000000000000 ≤ lo ∧ lo ≤ hi ∧ hi ≤ 1000000000000)

theorem vld_t {lo hi : Int} (h : vld lo hi = true) : -1000000000000 ≤ lo ∧ lo ≤ hi ∧ hi ≤ 1000000000000 := by simpa [vld] using h
theorem vld_mk {lo hi : Int} (h : -1000000000000 ≤ lo ∧ lo ≤ hi ∧ hi ≤ 1000000000000) : vld lo hi = true := by simpa [vld] using h
theorem vld_no {lo hi : Int} (h : ¬ (-1000000000000 ≤ lo ∧ lo ≤ hi ∧ hi ≤ 1000000000000)) : vld lo hi = false := decide_eq_false h

theorem ret_bool {a b : Bool} (h : a = b) : Ending.returned (.bool a) = .returned (.bool b) := by rw [h]
theorem ret_r2 {a b : Int} {t : Int × Int} (h : t = (a, b)) : Ending.returned (.tuple #[.int .i64 a, .int .i64 b]) = .returned (R2 t) := by rw [h]
theorem ret_r2' {t u : Int × Int} (h : t = u) : Ending.returned (.tuple #[.int .i64 u.1, .int .i64 u.2]) = .returned (R2 t) := by rw [h]
theorem ret_r3' {t u : Int × Int × Int} (h : t = u) : Ending.returned (.tuple #[.agg #[.int .i64 u.1, .int .i64 u.2.1], .int .i64 u.2.2]) = .returned (R3 t) := by rw [h]
theorem ret_r3 {a b c : Int} {t : Int × Int × Int} (h : t = (a, b, c)) : Ending.returned (.tuple #[.agg #[.int .i64 a, .int .i64 b], .int .i64 c]) = .returned (R3 t) := by rw [h]

set_option maxHeartbeats 400000 in
theorem valid_any (lo hi : Int) (w : World) :
    Calls Try.prog 33 #[ivl lo hi] w fun e w' => e = .returned (.bool (vld lo hi)) ∧ Below w.heap.size w w' := by
  by_cases h1 : -1000000000000 ≤ lo
  · by_cases h2 : lo ≤ hi
    · by_cases h3 : hi ≤ 1000000000000
      all_goals
        go_enter Try.func33, Try.ntmps33
        go_wp2
        go_ret
        exact ⟨ret_bool (by first | exact (vld_mk (by omega)).symm | exact (vld_no (by omega)).symm), (Below.refl _ _).alloc (Nat.le_refl _) _⟩
    · go_enter Try.func33, Try.ntmps33
      go_wp2
      go_ret
      exact ⟨ret_bool (vld_no (by omega)).symm, (Below.refl _ _).alloc (Nat.le_refl _) _⟩
  · go_enter Try.func33, Try.ntmps33
    go_wp2
    go_ret
    exact ⟨ret_bool (vld_no (by omega)).symm, (Below.refl _ _).alloc (Nat.le_refl _) _⟩

set_option maxHeartbeats 400000 in
theorem rvalid_any (lo hi : Int) (w : World) :
    Calls Try.prog 34 #[ivl lo hi] w fun e w' => e = .returned (.bool (vld lo hi)) ∧ Below w.heap.size w w' := by
  by_cases h2 : lo ≤ hi
  · by_cases h1 : -1000000000000 ≤ lo
    · by_cases h3 : hi ≤ 1000000000000
      all_goals
        go_enter Try.func34, Try.ntmps34
        go_wp2
        go_ret
        exact ⟨ret_bool (by first | exact (vld_mk (by omega)).symm | exact (vld_no (by omega)).symm), (Below.refl _ _).alloc (Nat.le_refl _) _⟩
    · go_enter Try.func34, Try.ntmps34
      go_wp2
      go_ret
      exact ⟨ret_bool (vld_no (by omega)).symm, (Below.refl _ _).alloc (Nat.le_refl _) _⟩
  · go_enter Try.func34, Try.ntmps34
    go_wp2
    go_ret
    exact ⟨ret_bool (vld_no (by omega)).symm, (Below.refl _ _).alloc (Nat.le_refl _) _⟩

/-- A number that is not too large, or the error. -/
def bnd (q : Int) : Int × Int := if -1000000000000 ≤ q ∧ q ≤ 1000000000000 then (q, 0) else (0, 4)

set_option maxHeartbeats 400000 in
theorem quotient_any (q : Int) (w : World) :
    Calls Try.prog 44 #[.int .i64 q] w fun e w' => e = .returned (R2 (bnd q)) ∧ w = w' := by
  by_cases h1 : q < -1000000000000
  · go_enter Try.func44, Try.ntmps44
    go_wp2
    go_ret2
    exact ⟨ret_r2 (if_neg (by omega)), rfl⟩
  · by_cases h2 : 1000000000000 < q
    · go_enter Try.func44, Try.ntmps44
      go_wp2
      go_ret2
      exact ⟨ret_r2 (if_neg (by omega)), rfl⟩
    · go_enter Try.func44, Try.ntmps44
      go_wp2
      go_ret2
      exact ⟨ret_r2 (if_pos (by omega)), rfl⟩

set_option maxHeartbeats 400000 in
theorem bounded_any (q : Int) (w : World) :
    Calls Try.prog 45 #[.int .i64 q] w fun e w' => e = .returned (R2 (bnd q)) ∧ w = w' := by
  by_cases h1 : q < -1000000000000
  · go_enter Try.func45, Try.ntmps45
    go_wp2
    go_ret2
    exact ⟨ret_r2 (if_neg (by omega)), rfl⟩
  · by_cases h2 : 1000000000000 < q
    · go_enter Try.func45, Try.ntmps45
      go_wp2
      go_ret2
      exact ⟨ret_r2 (if_neg (by omega)), rfl⟩
    · go_enter Try.func45, Try.ntmps45
      go_wp2
      go_ret2
      exact ⟨ret_r2 (if_pos (by omega)), rfl⟩

/-- A factor from -10^6 to 10^6. -/
def fct (n : Int) : Bool := decide (-1000000 ≤ n ∧ n ≤ 1000000)

set_option maxHeartbeats 400000 in
theorem isFactor_any (n : Int) (w : World) :
    Calls Try.prog 48 #[.int .i64 n] w fun e w' => e = .returned (.bool (fct n)) ∧ w = w' := by
  by_cases h1 : -1000000 ≤ n
  · by_cases h2 : n ≤ 1000000
    all_goals
      go_enter Try.func48, Try.ntmps48
      go_wp2
      go_ret
      exact ⟨ret_bool (by first | exact (decide_eq_true (by omega)).symm | exact (decide_eq_false (by omega)).symm), rfl⟩
  · go_enter Try.func48, Try.ntmps48
    go_wp2
    go_ret
    exact ⟨ret_bool (decide_eq_false (by omega)).symm, rfl⟩

end Go.Proofs.Ytfpjpilhblhhgaa
