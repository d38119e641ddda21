/-
  Stage 6: the maker's comparison of two lists of wagons that read alike.
-/
import Derived.Test.YtjgeolfjhfdbmaaCWag
import Derived.BigQuiet
set_option linter.unusedSimpArgs false
set_option linter.unusedVariables false
namespace Go.Proofs.Ytjgeolfjhfdbmaa
open Go.RowKit

theorem wsame_any (l : List Wag) (A A' : Option Addr) (c c' : Nat) (w : World) (h : RRow WR w A l) (h' : RRow WR w A' l) :
    Calls Try.prog 27 #[.slice A l.length c, .slice A' l.length c'] w fun e w' => e = .returned (.bool true) ∧ ∃ n, w' = w.drewN n := by
  have hl : l.length ≤ 9223372036854775807 := h.len
  obtain ⟨L, hL⟩ : ∃ n, n = l.length := ⟨_, rfl⟩
  have H := Lib.hid h
  have H' := Lib.hid h'
  have HL := Lib.hid hL
  rw [← hL] at hl ⊢
  clear h h' hL
  go_enter Try.func27, Try.ntmps27
  go_wp2_with fail
  go_loopw [5] (fun i wr => (∃ n, wr = w.drewN n) ∧ ∃ k : Nat, k ≤ L ∧ i = .int .i64 k) (fun i _ => L - (intOf i).toNat)
  case atStart => exact ⟨⟨0, rfl⟩, 0, by omega, rfl⟩
  case round =>
    obtain ⟨⟨n, hw⟩, k, hk, rfl⟩ := hrel
    have HW := Lib.hid (show ∃ n, wr = w.drewN n from ⟨n, hw⟩)
    by_cases hlt : k < L
    · obtain ⟨x, hx⟩ : ∃ x, l[k]? = some x := ⟨_, List.getElem?_eq_getElem (by rw [← HL.out]; exact hlt)⟩
      obtain ⟨a, rfl, C⟩ := H.out.at_ hx
      obtain ⟨a', rfl, C'⟩ := H'.out.at_ hx
      have D1 := WSpelt.of (C.drewN n)
      have D2 := WSpelt.of (C'.drewN n)
      rw [← hw] at D1 D2
      obtain ⟨xnum, xlen, xaxl, xmas, xbrk, xgds, xgen, xdst⟩ := x
      obtain ⟨c0, c1, c2, c3, c4, c5, c6, c7⟩ := D1
      obtain ⟨g0, g1, g2, g3, g4, g5, g6, g7⟩ := D2
      simp only at c0 c1 c2 c3 c4 c5 c6 c7 g0 g1 g2 g3 g4 g5 g6 g7
      clear C C' hw hx
      go_upto_region 6 with fail
      go_quiet (fail)
      clear c0 c1 c2 c3 c4 c5 c6 c7 g0 g1 g2 g3 g4 g5 g6 g7
      go_wp2_with fail
      go_roundw
      case rel => exact ⟨by obtain ⟨n, rfl⟩ := HW.out; exact ⟨n + nq, by rw [World.drewN_drewN]⟩, k + 1, by omega, by go_num⟩
      case measure => simp [intOf]; omega
    · clear hw
      go_wp2_with fail
      go_ret
      exact ⟨rfl, HW.out⟩
end Go.Proofs.Ytjgeolfjhfdbmaa
