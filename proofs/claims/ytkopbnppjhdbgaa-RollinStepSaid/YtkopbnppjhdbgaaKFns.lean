/-
  Stage 12: the program's Is, Next, Count, Nth and Rank.
-/
import Derived.Test.YtkopbnppjhdbgaaKSpec
set_option linter.unusedSimpArgs false
set_option linter.unusedVariables false
namespace Go.Proofs.Ytkopbnppjhdbgaa
open Go.RowKit

theorem is_any (k r v : Int) (w : World) : Calls Try.prog 64 #[.int .i64 k, .int .i64 r, .int .i64 v] w fun e w' => e = .returned (.bool (isZ k r v)) ∧ w = w' := by
  go_enter Try.func64, Try.ntmps64
  go_wp2_with fail
  refine (isForm_any _ _ _).mono ?_
  rintro e w1 ⟨rfl, rfl⟩
  cases hf : frmB r v
  · have hz := Lib.hid (isZ_no (k := k) hf)
    go_wp2_with fail
    go_ret
    exact ⟨ret_bool hz.out.symm, rfl⟩
  · obtain ⟨R, V, rfl, rfl, hR, hV⟩ := frm_nat hf
    clear hf
    go_wp2_with fail
    refine (isCode_any _ _).mono ?_
    rintro e w1 ⟨rfl, rfl⟩
    cases hc : cdB k
    · have hz := Lib.hid (isZ_cd (r := (R : Int)) (v := (V : Int)) hc)
      go_wp2_with fail
      go_ret
      exact ⟨ret_bool hz.out.symm, rfl⟩
    · obtain ⟨K, rfl⟩ := Int.eq_ofNat_of_zero_le (cdB_iff.1 hc).1
      have hK : K < 4096 := by have := (cdB_iff.1 hc).2; omega
      clear hc
      have hz := Lib.hid (isZ_nat (K := K) hR hV)
      go_wp2_with fail
      refine (hasMissed_any _ _ _ hR hK).mono ?_
      rintro e w1 ⟨rfl, rfl⟩
      cases hm : (K % 2 ^ R == 2 ^ R - 1)
      · have hz2 := Lib.hid (show isC R V K = false by unfold isC; rw [hm]; simp)
        clear hm
        go_wp2_with fail
        go_ret
        exact ⟨ret_bool (by rw [hz.out, hz2.out]), rfl⟩
      · have hz2 := Lib.hid (show isC R V K = decide (pc (rpN R K) ≤ V) by unfold isC; rw [hm, rp_pc hK, decide_eq_true hK]; simp)
        clear hm
        have hq := Nat.lt_of_le_of_lt (rpN_le R K) hK
        go_wp2_with fail
        refine (realPart_any _ _ _ hR hK).mono ?_
        rintro e w1 ⟨rfl, rfl⟩
        go_wp2_with fail
        refine (ones_any _ _ hq).mono ?_
        rintro e w1 ⟨rfl, rfl⟩
        go_wp2_with fail
        go_ret
        exact ⟨ret_bool (by rw [hz.out, hz2.out]), rfl⟩

theorem or_lt {R N : Nat} (hR : R ≤ 12) (hN : N ≤ 9223372036854775807) : orN R N ≤ 9223372036854775807 := by
  have hp := Nat.two_pow_pos R
  have hd : N / 2 ^ R < 2 ^ (63 - R) := div_lt_pow (by omega) (by omega)
  have e : 2 ^ (63 - R) * 2 ^ R = 2 ^ 63 := by rw [← Nat.pow_add]; congr 1; omega
  have hm := Nat.mul_le_mul_right (2 ^ R) (show N / 2 ^ R + 1 ≤ 2 ^ (63 - R) from hd)
  rw [e, Nat.add_mul, Nat.one_mul] at hm
  unfold orN mN
  omega
set_option maxHeartbeats 800000 in
theorem next_codeA (N R V : Nat) (w : World) (hR : R ≤ 12) (hV : V ≤ 12) (hN : N ≤ 9223372036854775807) : Calls Try.prog 58 #[.int .i64 (N : Int), .int .i64 (R : Int), .int .i64 (V : Int)] w fun e w' => e = .returned (R2 (nextZ N R V)) ∧ w = w' := by
  have hfr := frm_yes hR hV
  go_enter Try.func58, Try.ntmps58
  go_wp2_with fail
  refine (isForm_any _ _ _).mono ?_
  rintro e w1 ⟨rfl, rfl⟩
  rw [hfr]
  clear hfr
  go_wp2_with fail
  refine (missed_any _ _ hR).mono ?_
  rintro e w1 ⟨rfl, rfl⟩
  have ho := or_run (n := N) hR (by omega)
  have hg := or_ge (r := R) (n := N)
  have hm0 := or_mod (r := R) (n := N)
  have hn0 : ∀ x, N ≤ x → x < orN R N → isC R V x = false := fun x h1 h2 => or_none h1 h2
  have hb0 : orN R N ≤ 9223372036854775807 := or_lt hR hN
  obtain ⟨K0, hK0⟩ : ∃ x, x = orN R N := ⟨_, rfl⟩
  rw [← hK0] at ho hg hm0 hn0 hb0
  clear hK0
  have HM0 := Lib.hid hm0
  have HN0 := Lib.hid hn0
  clear hm0 hn0
  go_wp2_with fail
  clear ho
  go_loop [8] (fun k => ∃ K : Nat, K ≤ 9223372036854775807 ∧ N ≤ K ∧ k = .int .i64 K ∧ Hid (K % 2 ^ R = 2 ^ R - 1) ∧ Hid (∀ x, N ≤ x → x < K → isC R V x = false)) (fun k => 4096 - (intOf k).toNat)
  case atStart => exact ⟨K0, by omega, hg, rfl, HM0, HN0⟩
  case round =>
    obtain ⟨K, hK, hNK, rfl, HM, HN⟩ := hrel
    by_cases hlt : K < 4096
    · have hlt' : (K : Int) ≤ 4095 := by omega
      have hq := Nat.lt_of_le_of_lt (rpN_le R K) hlt
      go_wp2_with fail
      refine (realPart_any _ _ _ hR hlt).mono ?_
      rintro e w1 ⟨rfl, rfl⟩
      go_wp2_with fail
      refine (ones_any _ _ hq).mono ?_
      rintro e w1 ⟨rfl, rfl⟩
      by_cases hp : pc (rpN R K) ≤ V
      · have hc := Lib.hid (nextZ_hit hR hV hNK (isC_iff.2 ⟨hlt, HM.out, by rw [← rp_pc hlt]; exact hp⟩) HN.out)
        have hp' : ¬ (V : Int) < (pc (rpN R K) : Int) := by omega
        clear hp
        go_wp2_with fail
        go_ret2
        exact ⟨ret_r2 hc.out, rfl⟩
      · have hst := next_step (w := V) hR hlt HM.out (by omega)
        have h0 : rpN R K ≠ 0 := fun e => by rw [e, pc_zero] at hp; omega
        have hlb := low_bd hq h0
        have hs1 := Lib.hid hst.1
        have hs2 := Lib.hid (show ∀ x, N ≤ x → x < K + lowN (rpN R K) → isC R V x = false from fun x h1 h2 => by
          rcases Nat.lt_or_ge x K with g | g
          · exact HN.out x h1 g
          · exact hst.2 x g h2)
        clear hst
        have hp' : (V : Int) < (pc (rpN R K) : Int) := by omega
        have hle := rpN_le R K
        clear hp
        go_wp2_with fail
        refine (realPart_any _ _ _ hR hlt).mono ?_
        rintro e w1 ⟨rfl, rfl⟩
        go_wp2_with fail
        refine (lowestBit_any _ _ hq h0).mono ?_
        rintro e w1 ⟨rfl, rfl⟩
        go_wp2_with fail
        go_round
        case rel => exact ⟨K + lowN (rpN R K), by omega, by omega, by go_num, hs1, hs2⟩
        case measure => simp [intOf]; omega
    · have hlt' : ¬ (K : Int) ≤ 4095 := by omega
      have hlt2 : (4095 : Int) < (K : Int) := by omega
      have hc := Lib.hid (nextZ_none hR hV (show 4096 ≤ K by omega) HN.out)
      go_wp2_with fail
      go_ret2
      exact ⟨ret_r2 hc.out, rfl⟩
theorem next_code (n r v : Int) (w : World) (hn : n ≤ 9223372036854775807) : Calls Try.prog 58 #[.int .i64 n, .int .i64 r, .int .i64 v] w fun e w' => e = .returned (R2 (nextZ n r v)) ∧ w = w' := by
  by_cases h : frmB r v = true ∧ 0 ≤ n
  · obtain ⟨R, V, rfl, rfl, hR, hV⟩ := frm_nat h.1
    obtain ⟨N, rfl⟩ := Int.eq_ofNat_of_zero_le h.2
    exact next_codeA N R V w hR hV (by omega)
  · have hz := Lib.hid (nextZ_bad h)
    go_enter Try.func58, Try.ntmps58
    go_wp2_with fail
    refine (isForm_any _ _ _).mono ?_
    rintro e w1 ⟨rfl, rfl⟩
    cases hf : frmB r v
    · go_wp2_with fail
      go_ret2
      exact ⟨ret_r2 hz.out, rfl⟩
    · have hn0 : n < 0 := by rw [hf] at h; simp at h; omega
      clear h hf
      go_wp2_with fail
      go_ret2
      exact ⟨ret_r2 hz.out, rfl⟩
end Go.Proofs.Ytkopbnppjhdbgaa
