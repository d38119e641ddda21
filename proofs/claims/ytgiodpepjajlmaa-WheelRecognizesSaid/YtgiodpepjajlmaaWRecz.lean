/-
  Stage 7: the law's recognizes: both answers agree.
-/
import Derived.Test.YtgiodpepjajlmaaWRRec
import Derived.Test.YtgiodpepjajlmaaWSane
set_option linter.unusedSimpArgs false
set_option linter.unusedVariables false
namespace Go.Proofs.Ytgiodpepjajlmaa
open Go.RowKit

theorem own_rowZ {w : World} {base : Nat} {A : Option Addr} {n c : Nat} {zs : List Int} (h : Own .i64 3 w base (.slice A n c) zs) : Row .i64 w w.heap.size A zs := by
  obtain ⟨A', c', e, R, _⟩ := h.slice
  injection e with e _ _; subst e; exact R
theorem own_lenZ {w : World} {base : Nat} {v : Value} {zs : List Int} (h : Own .i64 3 w base v zs) : zs.length ≤ maxLen := by
  obtain ⟨A', c', e, R, _, h, _⟩ := h.slice; exact h
set_option maxHeartbeats 6400000 in
theorem recz_any (d : List Int) (ps : List (List Int)) (tol : Int) (A A2 : Option Addr) (c c2 : Nat) (w : World) (h : Row .i64 w w.heap.size A d) (hl : d.length ≤ maxLen) (hcap : d.length ≤ c) (h2 : PP w A2 ps) (hl2 : ps.length ≤ maxLen) :
    Calls Try.prog 25 #[.slice A d.length c, .slice A2 ps.length c2, .int .i64 tol] w fun e w' => e = .returned (.bool true) ∧ Below w.heap.size w w' := by
  have p1 := Lib.hid (prec_any d ps tol A A2 c c2 w h hl hcap h2 hl2)
  have p2 := Lib.hid (show ∀ w1, Below w.heap.size w w1 → Calls Try.prog 41 #[.slice A d.length c, .slice A2 ps.length c2, .int .i64 tol] w1 (RecPost d ps tol w1) from fun w1 b => rrec_any d ps tol A A2 c c2 w1 (h.below b) hl hcap (h2.below b) hl2)
  obtain ⟨L, hL⟩ : ∃ n, n = d.length := ⟨_, rfl⟩
  obtain ⟨M, hM⟩ : ∃ n, n = ps.length := ⟨_, rfl⟩
  rw [← hL, ← hM] at p1 p2
  rw [← hL, ← hM]
  clear h hl hcap h2 hl2 hL hM
  unfold RecPost at p1 p2
  obtain ⟨X, hX⟩ : ∃ X, X = recR d ps tol := ⟨_, rfl⟩
  rw [← hX] at p1 p2
  clear hX
  obtain ⟨x1, x2, x3⟩ := X
  go_enter Try.func25, Try.ntmps25
  go_wp2_with fail
  refine p1.out.mono ?_
  rintro e w1 ⟨v1, rfl, O1, B1⟩
  have HB1 := Lib.hid B1
  have HO1 := Lib.hid O1
  clear O1 B1 p1
  go_wp2_with fail
  refine (p2.out w1 HB1.out).mono ?_
  rintro e w2 ⟨v2, rfl, O2, B2⟩
  have HB2 := Lib.hid (HB1.out.trans (B2.mono HB1.out.size))
  have HO2 := Lib.hid O2
  have HO3 := Lib.hid (HO1.out.below B2)
  clear p2 O2 B2 HB1 HO1
  obtain ⟨B1, d1, rfl, -⟩ := HO3.out.slice
  obtain ⟨B2, d2, rfl, -⟩ := HO2.out.slice
  have q1 := ints_same x1 B1 B2 d1 d2 w2 (own_rowZ HO3.out) (own_rowZ HO2.out) (own_lenZ HO2.out)
  go_wp2_with fail
  refine q1.mono ?_
  rintro e w3 ⟨rfl, n, rfl⟩
  have HB3 := Lib.hid (bdn (n := n) HB2.out)
  go_wp2_with fail
  go_ret
  exact ⟨by simp [ret_bool], HB3.out⟩
end Go.Proofs.Ytgiodpepjajlmaa
