/-
  Stage 8: the maker's comparison of two tables that read alike.
-/
import Derived.Test.YtbdiilkdajadcaaDoorRVerS
import Derived.Test.YtbdiilkdajadcaaDoorRInts
set_option linter.unusedSimpArgs false
set_option linter.unusedVariables false
namespace Go.Proofs.YtbdiilkdajadcaaDoor
open Go.RowKit

theorem PP.drewR {w : World} {A : Option Addr} {ps : List (List Int)} (h : PP w A ps) (n : Nat) : PP (w.drewN n) A ps := h.below ⟨rfl, rfl, rfl, Nat.le_refl _, fun _ _ => rfl⟩
set_option maxHeartbeats 1600000 in
theorem lsts_same (ps : List (List Int)) (P Q : Option Addr) (n c c' : Nat) (w : World) (hn : n = ps.length) (hl : ps.length ≤ maxLen) (h : PP w P ps) (h' : PP w Q ps) :
    Calls Tryd.prog 18 #[.slice P n c, .slice Q n c'] w fun e w' => e = .returned (.bool true) ∧ ∃ n, w' = w.drewN n := by
  have H := Lib.hid h
  have H' := Lib.hid h'
  have HL := Lib.hid hn
  rw [← hn] at hl
  unfold maxLen at hl
  clear h h' hn
  go_enter Tryd.func18, Tryd.ntmps18
  go_wp2_with fail
  go_loopw [5] (fun i wr => (∃ n, wr = w.drewN n) ∧ ∃ k : Nat, k ≤ n ∧ i = .int .i64 k) (fun i _ => n - (intOf i).toNat)
  case atStart => exact ⟨⟨0, rfl⟩, 0, by omega, rfl⟩
  case round =>
    obtain ⟨⟨d, hw⟩, k, hk, rfl⟩ := hrel
    have HW := Lib.hid (show ∃ n, wr = w.drewN n from ⟨d, hw⟩)
    by_cases hlt : k < n
    · obtain ⟨ad, rfl, a, ca, hc, hr, hm⟩ := H.out.at_ (k := k) (by rw [← HL.out]; exact hlt)
      obtain ⟨ad', rfl, a', ca', hc', hr', hm'⟩ := H'.out.at_ (k := k) (by rw [← HL.out]; exact hlt)
      have HQ := Lib.hid (show ∀ j, Calls Tryd.prog 17 #[.slice a (ps.getD k []).length ca, .slice a' (ps.getD k []).length ca'] (wr.drewN j) fun e w'' => e = .returned (.bool true) ∧ ∃ m, w'' = wr.drewN m from fun j => by
        have hb : Below w.heap.size w (wr.drewN j) := by rw [hw]; exact ⟨rfl, rfl, rfl, Nat.le_refl _, fun _ _ => rfl⟩
        refine (ints_any _ _ a a' _ _ ca ca' (wr.drewN j) rfl rfl (hr.below hb) (hr'.below hb) hm hm').mono ?_
        rintro e w'' ⟨rfl, m, rfl⟩
        exact ⟨by rw [decide_eq_true rfl], j + m, by rw [World.drewN_drewN]⟩)
      have hd : wr.cell? (ad.add k) = w.cell? (ad.add k) := by rw [hw]; rfl
      have hd' : wr.cell? (ad'.add k) = w.cell? (ad'.add k) := by rw [hw]; rfl
      rw [hc] at hd
      rw [hc'] at hd'
      generalize (ps.getD k []).length = L at *
      clear hc hc' hw hr hr' hm hm'
      go_upto_region 6 with fail
      go_quiet ((go_at_call 17; exact HQ.out _))
      clear hd hd'
      go_wp2_with fail
      go_roundw
      case rel => exact ⟨by obtain ⟨n, rfl⟩ := HW.out; exact ⟨n + nq, by rw [World.drewN_drewN]⟩, k + 1, by omega, by go_num⟩
      case measure => simp [intOf]; omega
    · clear hw
      go_wp2_with fail
      go_ret
      exact ⟨rfl, HW.out⟩
end Go.Proofs.YtbdiilkdajadcaaDoor
