/-
  Stage 9: two lists of elements that read alike are the same (humpgen.Elements).
-/
import Derived.Test.YtdoifaifhikkjaaGreatDoorLParse
import Derived.BigQuiet
set_option linter.unusedSimpArgs false
set_option linter.unusedVariables false
namespace Go.Proofs.YtdoifaifhikkjaaGreatDoor
open Go.RowKit Go.Lib

theorem ESpelt.drewN {w : World} {ad : Addr} {x : El} (h : ESpelt w ad x) (n : Nat) : ESpelt (w.drewN n) ad x := ⟨h.c0, h.c1, h.c2, h.c3, h.c4, h.c5, h.c6, h.c7⟩
set_option maxRecDepth 100000 in
set_option maxHeartbeats 1600000 in
theorem els_same (l : List El) (A A' : Option Addr) (c c' : Nat) (w : World) (h : RRow ER w A l) (h' : RRow ER w A' l) :
    Calls Tryz.prog 8 #[.slice A l.length c, .slice A' l.length c'] w fun e w' => e = .returned (.bool true) ∧ ∃ n, w' = w.drewN n := by
  have hl : l.length ≤ maxLen := h.len
  unfold maxLen at hl
  obtain ⟨L, hL⟩ : ∃ n, n = l.length := ⟨_, rfl⟩
  have H := Lib.hid h
  have H' := Lib.hid h'
  have HL := Lib.hid hL
  rw [← hL] at hl ⊢
  clear h h' hL
  go_enter Tryz.func8, Tryz.ntmps8
  go_wp2_with fail
  go_loopw [5] (fun i wr => (∃ n, wr = w.drewN n) ∧ ∃ k : Nat, k ≤ L ∧ i = .int .i64 k) (fun i _ => L - (intOf i).toNat)
  case atStart => exact ⟨⟨0, rfl⟩, 0, by omega, rfl⟩
  case round =>
    obtain ⟨⟨n, hw⟩, k, hk, rfl⟩ := hrel
    have HW := Lib.hid (show ∃ n, wr = w.drewN n from ⟨n, hw⟩)
    by_cases hlt : k < L
    · obtain ⟨x, hx⟩ : ∃ x, l[k]? = some x := ⟨_, List.getElem?_eq_getElem (by rw [← HL.out]; exact hlt)⟩
      obtain ⟨a, rfl, C⟩ := H.out.at_ hx
      obtain ⟨a', rfl, C'⟩ := H'.out.at_ hx
      obtain ⟨c0, c1, c2, c3, c4, c5, c6, c7⟩ := (ESpelt.of C).drewN n
      obtain ⟨d0, d1, d2, d3, d4, d5, d6, d7⟩ := (ESpelt.of C').drewN n
      rw [← hw] at c0 c1 c2 c3 c4 c5 c6 c7 d0 d1 d2 d3 d4 d5 d6 d7
      obtain ⟨ki, nm, pa, si, le, gr, cu, po⟩ := x
      simp only at c0 c1 c2 c3 c4 c5 c6 c7 d0 d1 d2 d3 d4 d5 d6 d7
      clear hw C C' hx
      go_upto_region 6 with fail
      go_quiet (fail)
      clear c0 c1 c2 c3 c4 c5 c6 c7 d0 d1 d2 d3 d4 d5 d6 d7
      go_wp2_with fail
      go_roundw
      case rel => exact ⟨by obtain ⟨n, rfl⟩ := HW.out; exact ⟨n + nq, by rw [World.drewN_drewN]⟩, k + 1, by omega, by go_num⟩
      case measure => simp [intOf]; omega
    · clear hw
      go_wp2_with fail
      go_ret
      exact ⟨rfl, HW.out⟩
end Go.Proofs.YtdoifaifhikkjaaGreatDoor
