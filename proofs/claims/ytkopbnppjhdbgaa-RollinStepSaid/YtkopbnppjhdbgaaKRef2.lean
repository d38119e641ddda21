/-
  Stage 12: the reference's Next, Count, Nth, Rank.
-/
import Derived.Test.YtkopbnppjhdbgaaKRef
set_option linter.unusedSimpArgs false
set_option linter.unusedVariables false
namespace Go.Proofs.Ytkopbnppjhdbgaa
open Go.RowKit

theorem drew_add {w w1 w2 : World} (h1 : ∃ n, w1 = w.drewN n) (h2 : ∃ n, w2 = w1.drewN n) : ∃ n, w2 = w.drewN n := by
  obtain ⟨n, rfl⟩ := h1
  obtain ⟨m, rfl⟩ := h2
  exact ⟨n + m, by simp [World.drewN, Nat.add_assoc]⟩
set_option maxHeartbeats 1600000 in
theorem rnext_nat (N R V : Nat) (w : World) (hR : R ≤ 12) (hV : V ≤ 12) (hN : N ≤ 9223372036854775807) : Calls Try.prog 24 #[.int .i64 (N : Int), .int .i64 (R : Int), .int .i64 (V : Int)] w fun e w' => e = .returned (R2 (nextZ N R V)) ∧ ∃ n, w' = w.drewN n := by
  have hfr := frm_yes hR hV
  go_enter Try.func24, Try.ntmps24
  go_wp2_with fail
  refine (form_any _ _ _).mono ?_
  rintro e w1 ⟨rfl, rfl⟩
  rw [hfr]
  clear hfr
  go_wp2_with fail
  go_loopw [8] (fun k wr => ∃ K : Nat, K ≤ 9223372036854775807 ∧ N ≤ K ∧ k = .int .i64 K ∧ Hid (∃ n, wr = w.drewN n) ∧ Hid (∀ x, N ≤ x → x < K → isC R V x = false)) (fun k _ => 4096 - (intOf k).toNat)
  case atStart => exact ⟨N, by omega, by omega, rfl, Lib.hid ⟨0, rfl⟩, Lib.hid (fun x h1 h2 => by omega)⟩
  case round =>
    obtain ⟨K, hK, hNK, rfl, HW, HN⟩ := hrel
    by_cases hlt : K < 4096
    · have hlt' : (K : Int) < 4096 := by omega
      go_wp2_with fail
      refine (ris_nat K R V _ hR hV hlt).mono ?_
      rintro e w1 ⟨rfl, hw1⟩
      have HW1 := Lib.hid (drew_add HW.out hw1)
      clear hw1
      cases hc : isC R V K
      · have HN2 := Lib.hid (show ∀ x, N ≤ x → x < K + 1 → isC R V x = false from fun x h1 h2 => by
          rcases Nat.lt_or_ge x K with g | g
          · exact HN.out x h1 g
          · obtain rfl : x = K := by omega
            exact hc)
        clear hc
        go_wp2_with fail
        go_roundw
        case rel => exact ⟨K + 1, by omega, by omega, by go_num, HW1, HN2⟩
        case measure => simp [intOf] <;> omega
      · have HZ := Lib.hid (nextZ_hit hR hV hNK hc HN.out)
        clear hc
        go_wp2_with fail
        go_ret2
        exact ⟨ret_r2 HZ.out, HW1.out⟩
    · have hlt' : ¬ (K : Int) < 4096 := by omega
      have HZ := Lib.hid (nextZ_none hR hV (show 4096 ≤ K by omega) HN.out)
      go_wp2_with fail
      go_ret2
      exact ⟨ret_r2 HZ.out, HW.out⟩
theorem rnext_any (n r v : Int) (w : World) (hn : n ≤ 9223372036854775807) : Calls Try.prog 24 #[.int .i64 n, .int .i64 r, .int .i64 v] w fun e w' => e = .returned (R2 (nextZ n r v)) ∧ ∃ n, w' = w.drewN n := by
  by_cases h : frmB r v = true ∧ 0 ≤ n
  · obtain ⟨R, V, rfl, rfl, hR, hV⟩ := frm_nat h.1
    obtain ⟨N, rfl⟩ := Int.eq_ofNat_of_zero_le h.2
    exact rnext_nat N R V w hR hV (by omega)
  · have hz := Lib.hid (nextZ_bad h)
    go_enter Try.func24, Try.ntmps24
    go_wp2_with fail
    refine (form_any _ _ _).mono ?_
    rintro e w1 ⟨rfl, rfl⟩
    cases hf : frmB r v
    · go_wp2_with fail
      go_ret2
      exact ⟨ret_r2 hz.out, 0, rfl⟩
    · have hn0 : n < 0 := by rw [hf] at h; simp at h; omega
      clear h hf
      go_wp2_with fail
      go_ret2
      exact ⟨ret_r2 hz.out, 0, rfl⟩
end Go.Proofs.Ytkopbnppjhdbgaa
