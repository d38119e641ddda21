/-
  The walk of IntervalExact: whatever the list, the intervals and the numbers, the law returns true and leaves old memory as it was.
-/
import Derived.Test.YtfpjpilhblhhgaaExact
set_option linter.unusedSimpArgs false
set_option linter.unusedVariables false
namespace Go.Proofs.Ytfpjpilhblhhgaa
open Go.RowKit

theorem IsRow.below {k : IntKind} {w w' : World} {a : Option Addr} {len cap : Nat} {zs : List Int} (h : IsRow k w a len cap zs) (hb : Below w.heap.size w w') : IsRow k w' a len cap zs := by
  rcases h with h | ⟨x, h1, h2, h3, h4, h5, h6⟩
  · exact Or.inl h
  · refine Or.inr ⟨x, h1, h2, h3, h4, fun i hi => ?_, h6⟩
    have hc := h5 i hi
    rw [hb.cell (lt_of_cell hc)]
    exact hc

set_option maxRecDepth 100000 in
set_option maxHeartbeats 4000000 in
theorem exact_walk (t : Option Addr) (len cap : Nat) (zs : List Int) (a b c d num den : Int) (w : World) (h : IsRow .i64 w t len cap zs) :
    Calls Try.prog 3 #[.slice t len cap, ivl a b, ivl c d, .int .i64 num, .int .i64 den] w fun e w' => e = .returned (.bool true) ∧ Below w.heap.size w w' := by
  have hQ : ∀ o1 o2, IsRow .i64 ((w.alloc o1).alloc o2) t len cap zs := fun o1 o2 => h.below (((Below.refl _ _).alloc (Nat.le_refl _) _).alloc (by simp) _)
  have HQ := Lib.hid hQ
  clear hQ h
  go_enter Try.func3, Try.ntmps3
  go_wp2_with fail
  have HR := HQ.out (.cells #[.int .i64 a, .int .i64 b] 24) (.cells #[.int .i64 c, .int .i64 d] 24)
  have X0 : Loc ((w.alloc (.cells #[.int .i64 a, .int .i64 b] 24)).alloc (.cells #[.int .i64 c, .int .i64 d] 24)) w.heap.size a b := (Loc.new _ rfl).alloc _
  have Y0 : Loc ((w.alloc (.cells #[.int .i64 a, .int .i64 b] 24)).alloc (.cells #[.int .i64 c, .int .i64 d] 24)) (w.heap.size + 1) c d := Loc.new _ (by simp)
  have B0 : Below w.heap.size w ((w.alloc (.cells #[.int .i64 a, .int .i64 b] 24)).alloc (.cells #[.int .i64 c, .int .i64 d] 24)) := ((Below.refl _ _).alloc (Nat.le_refl _) _).alloc (by simp) _
  generalize ((w.alloc (.cells #[.int .i64 a, .int .i64 b] 24)).alloc (.cells #[.int .i64 c, .int .i64 d] 24)) = w0 at *
  have R00 := fun T => Rnd.new (T := T) HR
  have HR0 := Lib.hid R00
  clear R00 HR HQ
  refine (new_any _ _ _ _).mono ?_
  rintro e w1 ⟨rfl, rfl⟩
  go_wp2_with fail
  go_loopw [12] (fun i wr => ∃ k : Nat, k ≤ 6 ∧ i = .int .i64 k ∧ Rnd w0 wr (20 * k)) (fun i _ => 6 - (intOf i).toNat)
  case atStart => exact ⟨0, by omega, rfl, HR0.out _⟩
  case round =>
    obtain ⟨k, hk, rfl, R0⟩ := hrel
    by_cases hlt : k < 6
    · clear X0 Y0
      go_wp2_with fail
      refine (minterval_any _ _ _ R0.mkr (by omega)).mono ?_
      rintro e wa ⟨a1, b1, rfl, _, k1, k2⟩
      have R1 := R0.step k2 k1
      clear R0 k1 k2
      go_wp2_with fail
      refine (minterval_any _ _ _ R1.mkr (by omega)).mono ?_
      rintro e wb ⟨c1, d1, rfl, _, k1, k2⟩
      have R2 := R1.step k2 k1
      clear R1 k1 k2
      have ls := R2.lt
      go_wp2_with fail
      refine (pick_any _ _ (fun _ => True) _ 8 8 _ (R2.alloc _).mkr (by omega) (by omega) (by omega) (by omega) (by simp) (by exact new_pick _ _ _ [1, -1, 3, -7, 0, 1000000, 1000001, num] (by simp) _ (by simp))).mono ?_
      rintro e wc ⟨u, rfl, _, k1, k2⟩
      have R3 := (R2.alloc _).step k2 k1
      clear R2 k1 k2 ls
      have ls := R3.lt
      go_wp2_with fail
      refine (pick_any _ _ (fun _ => True) _ 8 8 _ (R3.alloc _).mkr (by omega) (by omega) (by omega) (by omega) (by simp) (by exact new_pick _ _ _ [1, 2, -3, 100, 0, 1000000, -1000001, den] (by simp) _ (by simp))).mono ?_
      rintro e wd ⟨v, rfl, _, k1, k2⟩
      have R4 := (R3.alloc _).step k2 k1
      clear R3 k1 k2 ls
      go_wp2_with fail
      refine (exact_any _ _ _ _ _ _ _).mono ?_
      rintro e we ⟨rfl, kb⟩
      have R5 := R4.below kb
      clear R4 kb
      go_wp2_with fail
      go_roundw
      case rel => exact ⟨k + 1, by omega, by go_num, R5.more (by omega)⟩
      case measure => simp [intOf]; omega
    · have X1 : Loc wr w.heap.size a b := X0.below R0.bel
      have Y1 : Loc wr (w.heap.size + 1) c d := Y0.below R0.bel
      clear X0 Y0
      obtain ⟨x0, x1, xl⟩ := X1
      obtain ⟨y0, y1, yl⟩ := Y1
      go_wp2_with fail
      refine (exact_any _ _ _ _ _ _ _).mono ?_
      rintro e we ⟨rfl, kb⟩
      have R5 := R0.below kb
      clear R0 kb x0 x1 xl y0 y1 yl
      go_wp2_with fail
      refine (sane_any _).mono ?_
      rintro e w2 ⟨rfl, kb⟩
      have R1 := R5.below kb
      go_wp2_with fail
      go_ret
      exact ⟨rfl, B0.trans (R1.bel.mono B0.size)⟩
end Go.Proofs.Ytfpjpilhblhhgaa
