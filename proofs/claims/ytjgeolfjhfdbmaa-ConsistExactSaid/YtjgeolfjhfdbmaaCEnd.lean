/-
  Stage 6: the reference's End, two.
-/
import Derived.Test.YtjgeolfjhfdbmaaCPl
set_option linter.unusedSimpArgs false
set_option linter.unusedVariables false
namespace Go.Proofs.Ytjgeolfjhfdbmaa
open Go.RowKit

def endV : Option Nat → Int
  | none => -1
  | some n => n
theorem endR_eq {bs : List Int} (h : bs.length ≠ 0) : endR bs = endV (endFrom bs (bs.getD 0 0).toNat 1) := by
  unfold endR
  rw [if_neg h]
  cases endFrom bs (bs.getD 0 0).toNat 1 <;> rfl
theorem ef_zero (bs : List Int) (n : Nat) : endFrom bs 0 n = if bs.length < n + 2 then none else some (n + 2) := rfl
theorem ef_succ (bs : List Int) (c n : Nat) : endFrom bs (c + 1) n = if bs.length < n + 15 then none else if bs.length < n + 15 + dAt bs n then none else endFrom bs c (n + 15 + dAt bs n) := rfl
set_option maxHeartbeats 1600000 in
theorem rend_any (A : Option Addr) (c : Nat) (bs : List Int) (w : World) (h : BRow w A bs) :
    Calls Try.prog 42 #[.slice A bs.length c] w fun e w' => e = .returned (.int .i64 (endR bs)) ∧ w = w' := by
  have hl := h.len
  by_cases h0 : bs.length = 0
  · have HF := Lib.hid (show endR bs = -1 by unfold endR; rw [if_pos h0])
    rw [h0]
    go_enter Try.func42, Try.ntmps42
    go_wp2_with fail
    go_ret
    exact ⟨ret_int HF.out.symm, rfl⟩
  · have H := Lib.hid h
    have HF := Lib.hid (endR_eq h0)
    obtain ⟨ad, rfl, _, c0⟩ := h.row 0 (by omega)
    rw [show ad.add 0 = ad by unfold Addr.add; rw [if_pos rfl]] at c0
    obtain ⟨z0, z1⟩ := h.bd.at_ 0
    obtain ⟨C, hC⟩ : ∃ C : Nat, C = (bs.getD 0 0).toNat := ⟨_, rfl⟩
    have hC2 : bs.getD 0 0 = (C : Int) := by omega
    have hC3 : C ≤ 255 := by omega
    rw [hC2] at c0
    rw [← hC] at HF
    obtain ⟨L, hL⟩ : ∃ L, L = bs.length := ⟨_, rfl⟩
    have HL := Lib.hid hL
    rw [← hL] at hl h0 ⊢
    have e0 : ((L : Int) == 0) = false := by rw [beq_eq_false_iff_ne]; omega
    have e1 : (0 : Int) < (L : Int) := by omega
    clear h hC hC2 hL z0 z1 h0
    go_enter Try.func42, Try.ntmps42
    go_wp2_with fail
    go_loop [3, 4] (fun a i => ∃ k n : Nat, k ≤ C ∧ n ≤ L ∧ i = .int .i64 k ∧ a = .int .i64 n ∧ Hid (endR bs = endV (endFrom bs (C - k) n))) (fun _ i => C - (intOf i).toNat)
    case atStart => exact ⟨0, 1, by omega, by omega, rfl, rfl, Lib.hid (by rw [Nat.sub_zero]; exact HF.out)⟩
    case round =>
      clear HF
      obtain ⟨k, n, hk, hn, rfl, rfl, V⟩ := hrel
      by_cases hlt : k < C
      · have hv := V.out
        rw [show C - k = (C - (k + 1)) + 1 by omega, ef_succ] at hv
        by_cases h1 : L < n + 15
        · have HV := Lib.hid (show endR bs = -1 by rw [hv, if_pos (by rw [← HL.out]; exact h1)]; rfl)
          have q1 : (L : Int) < (n : Int) + 15 := by omega
          clear hv
          go_wp2_with fail
          go_ret
          exact ⟨ret_int HV.out.symm, rfl⟩
        · rw [if_neg (by rw [← HL.out]; exact h1)] at hv
          obtain ⟨ad', e', _, cd⟩ := H.out.row (n + 14) (by rw [← HL.out]; omega)
          injection e' with e'
          subst e'
          obtain ⟨y0, y1⟩ := H.out.bd.at_ (n + 14)
          have hdA : dAt bs n = (bs.getD (n + 14) 0).toNat := rfl
          obtain ⟨d, hd⟩ : ∃ d, d = dAt bs n := ⟨_, rfl⟩
          have hd2 : bs.getD (n + 14) 0 = (d : Int) := by omega
          have hd3 : d ≤ 255 := by omega
          rw [hd2] at cd
          have cd' : w.cell? ⟨ad.block, ad.off + (n + 13 + 1), none⟩ = some (.int .u8 (d : Int)) := by rw [← add_succ_]; exact cd
          rw [← hd] at hv
          have q1 : ¬ (L : Int) < (n : Int) + 15 := by omega
          have q2 : (n : Int) + 14 < (L : Int) := by omega
          have q3 : 0 ≤ (n : Int) + 14 := by omega
          have q4 : ((n : Int) + 14).toNat = n + 14 := by omega
          clear hd hdA hd2 y0 y1
          by_cases h2 : L < n + 15 + d
          · have HV := Lib.hid (show endR bs = -1 by rw [hv, if_pos (by rw [← HL.out]; exact h2)]; rfl)
            have q5 : (L : Int) < (n : Int) + (15 + (d : Int)) := by omega
            clear hv
            go_wp2_with fail
            go_ret
            exact ⟨ret_int HV.out.symm, rfl⟩
          · rw [if_neg (by rw [← HL.out]; exact h2)] at hv
            have HV := Lib.hid hv
            have q5 : ¬ (L : Int) < (n : Int) + (15 + (d : Int)) := by omega
            clear hv
            go_wp2_with fail
            go_round
            case rel => exact ⟨k + 1, n + 15 + d, by omega, by omega, by go_num, by go_num, HV⟩
            case measure => simp [intOf]; omega
      · obtain rfl : k = C := by omega
        have hv := V.out
        rw [Nat.sub_self, ef_zero] at hv
        by_cases h1 : L < n + 2
        · have HV := Lib.hid (show endR bs = -1 by rw [hv, if_pos (by rw [← HL.out]; exact h1)]; rfl)
          have q1 : (L : Int) < (n : Int) + 2 := by omega
          clear hv
          go_wp2_with fail
          go_ret
          exact ⟨ret_int HV.out.symm, rfl⟩
        · have HV := Lib.hid (show endR bs = (n : Int) + 2 by rw [hv, if_neg (by rw [← HL.out]; exact h1)]; rfl)
          have q1 : ¬ (L : Int) < (n : Int) + 2 := by omega
          clear hv
          go_wp2_with fail
          go_ret
          exact ⟨ret_int HV.out.symm, rfl⟩
end Go.Proofs.Ytjgeolfjhfdbmaa
