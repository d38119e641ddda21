/-
  Stage 12: the reference's Next, Count, Nth, Rank.
-/
import Derived.Test.YtcplanafcnnodaaKRef
set_option linter.unusedSimpArgs false
set_option linter.unusedVariables false
namespace Go.Proofs.Ytcplanafcnnodaa
open Go.RowKit

theorem drew_add {w w1 w2 : World} (h1 : ∃ n, w1 = w.drewN n) (h2 : ∃ n, w2 = w1.drewN n) : ∃ n, w2 = w.drewN n := by
  obtain ⟨n, rfl⟩ := h1
  obtain ⟨m, rfl⟩ := h2
  exact ⟨n + m, by simp [World.drewN, Nat.add_assoc]⟩
set_option maxHeartbeats 1600000 in
theorem rnext_nat (N R V : Nat) (w : World) (hR : R ≤ 12) (hV : V ≤ 12) (hN : N ≤ 9223372036854775807) : Calls Try.prog 29 #[.int .i64 (N : Int), .int .i64 (R : Int), .int .i64 (V : Int)] w fun e w' => e = .returned (R2 (nextZ N R V)) ∧ ∃ n, w' = w.drewN n := by
  have hfr := frm_yes hR hV
  go_enter Try.func29, Try.ntmps29
  go_wp2_with fail
  refine (form_any _ _ _).mono ?_
  rintro e w1 ⟨rfl, rfl⟩
  rw [hfr]
  clear hfr
  go_wp2_with fail
  go_loopw [8] (fun k wr => ∃ K : Nat, K ≤ 9223372036854775807 ∧ N ≤ K ∧ k = .int .i64 K ∧ Hid (∃ n, wr = w.drewN n) ∧ Hid (∀ x, N ≤ x → x < K → isC R V x = false)) (fun k _ => 4096 - (intOf k).toNat)
  case atStart => exact ⟨N, by omega, by omega, rfl, Lib.hid ⟨0, rfl⟩, Lib.hid (fun x h1 h2 => by omega)⟩
  case round =>
    obtain ⟨K, hK, hNK, rfl, HW, HN⟩ := hrel
    by_cases hlt : K < 4096
    · have hlt' : (K : Int) < 4096 := by omega
      go_wp2_with fail
      refine (ris_nat K R V _ hR hV hlt).mono ?_
      rintro e w1 ⟨rfl, hw1⟩
      have HW1 := Lib.hid (drew_add HW.out hw1)
      clear hw1
      cases hc : isC R V K
      · have HN2 := Lib.hid (show ∀ x, N ≤ x → x < K + 1 → isC R V x = false from fun x h1 h2 => by
          rcases Nat.lt_or_ge x K with g | g
          · exact HN.out x h1 g
          · obtain rfl : x = K := by omega
            exact hc)
        clear hc
        go_wp2_with fail
        go_roundw
        case rel => exact ⟨K + 1, by omega, by omega, by go_num, HW1, HN2⟩
        case measure => simp [intOf] <;> omega
      · have HZ := Lib.hid (nextZ_hit hR hV hNK hc HN.out)
        clear hc
        go_wp2_with fail
        go_ret2
        exact ⟨ret_r2 HZ.out, HW1.out⟩
    · have hlt' : ¬ (K : Int) < 4096 := by omega
      have HZ := Lib.hid (nextZ_none hR hV (show 4096 ≤ K by omega) HN.out)
      go_wp2_with fail
      go_ret2
      exact ⟨ret_r2 HZ.out, HW.out⟩
theorem rnext_any (n r v : Int) (w : World) (hn : n ≤ 9223372036854775807) : Calls Try.prog 29 #[.int .i64 n, .int .i64 r, .int .i64 v] w fun e w' => e = .returned (R2 (nextZ n r v)) ∧ ∃ n, w' = w.drewN n := by
  by_cases h : frmB r v = true ∧ 0 ≤ n
  · obtain ⟨R, V, rfl, rfl, hR, hV⟩ := frm_nat h.1
    obtain ⟨N, rfl⟩ := Int.eq_ofNat_of_zero_le h.2
    exact rnext_nat N R V w hR hV (by omega)
  · have hz := Lib.hid (nextZ_bad h)
    go_enter Try.func29, Try.ntmps29
    go_wp2_with fail
    refine (form_any _ _ _).mono ?_
    rintro e w1 ⟨rfl, rfl⟩
    cases hf : frmB r v
    · go_wp2_with fail
      go_ret2
      exact ⟨ret_r2 hz.out, 0, rfl⟩
    · have hn0 : n < 0 := by rw [hf] at h; simp at h; omega
      clear h hf
      go_wp2_with fail
      go_ret2
      exact ⟨ret_r2 hz.out, 0, rfl⟩
set_option maxHeartbeats 1600000 in
theorem rnth_nat (I0 R V : Nat) (w : World) (hR : R ≤ 12) (hV : V ≤ 12) (hI0 : I0 ≤ 9223372036854775807) : Calls Try.prog 26 #[.int .i64 (I0 : Int), .int .i64 (R : Int), .int .i64 (V : Int)] w fun e w' => e = .returned (R2 (nthZ I0 R V)) ∧ ∃ n, w' = w.drewN n := by
  have hfr := frm_yes hR hV
  go_enter Try.func26, Try.ntmps26
  go_wp2_with fail
  refine (form_any _ _ _).mono ?_
  rintro e w1 ⟨rfl, rfl⟩
  rw [hfr]
  clear hfr
  go_wp2_with fail
  go_loopw [0, 8] (fun i k wr => ∃ K I : Nat, K ≤ 4096 ∧ I ≤ I0 ∧ i = .int .i64 I ∧ k = .int .i64 K ∧ Hid (cnt R V K + I = I0) ∧ Hid (∃ n, wr = w.drewN n)) (fun _ k _ => 4096 - (intOf k).toNat)
  case atStart => exact ⟨0, I0, by omega, by omega, rfl, rfl, Lib.hid (Nat.zero_add _), Lib.hid ⟨0, rfl⟩⟩
  case round =>
    obtain ⟨K, I, hK, hI, rfl, rfl, HI, HW⟩ := hrel
    by_cases hlt : K < 4096
    · have hlt' : (K : Int) < 4096 := by omega
      go_wp2_with fail
      refine (ris_nat K R V _ hR hV hlt).mono ?_
      rintro e w1 ⟨rfl, hw1⟩
      have HW1 := Lib.hid (drew_add HW.out hw1)
      clear hw1
      cases hc : isC R V K
      · have HI2 := Lib.hid (show cnt R V (K + 1) + I = I0 by rw [cnt_no hc]; exact HI.out)
        clear hc
        go_wp2_with fail
        go_roundw
        case rel => exact ⟨K + 1, I, by omega, hI, rfl, by go_num, HI2, HW1⟩
        case measure => simp [intOf] <;> omega
      · by_cases h0 : I = 0
        · have HZ := Lib.hid (nthZ_hit (I := I0) hR hV hc (by have := HI.out; omega))
          have h0' : ((I : Int) == 0) = true := by rw [beq_iff_eq]; omega
          clear hc h0
          go_wp2_with fail
          go_ret2
          exact ⟨ret_r2 HZ.out, HW1.out⟩
        · have HI2 := Lib.hid (show cnt R V (K + 1) + (I - 1) = I0 by rw [cnt_yes hc]; have := HI.out; omega)
          have h0' : ((I : Int) == 0) = false := by rw [beq_eq_false_iff_ne]; omega
          have hI1 : 1 ≤ I := by omega
          clear hc
          go_wp2_with fail
          go_roundw
          case rel => exact ⟨K + 1, I - 1, by omega, by omega, by rw [show ((I - 1 : Nat) : Int) = (I : Int) - 1 by omega], by go_num, HI2, HW1⟩
          case measure => simp [intOf] <;> omega
    · obtain rfl : K = 4096 := by omega
      have HZ := Lib.hid (nthZ_none (I := I0) hR hV (by have := HI.out; omega))
      go_wp2_with fail
      go_ret2
      exact ⟨ret_r2 HZ.out, HW.out⟩
theorem rnth_any (i r v : Int) (w : World) (hn : i ≤ 9223372036854775807) : Calls Try.prog 26 #[.int .i64 i, .int .i64 r, .int .i64 v] w fun e w' => e = .returned (R2 (nthZ i r v)) ∧ ∃ n, w' = w.drewN n := by
  by_cases h : frmB r v = true ∧ 0 ≤ i
  · obtain ⟨R, V, rfl, rfl, hR, hV⟩ := frm_nat h.1
    obtain ⟨N, rfl⟩ := Int.eq_ofNat_of_zero_le h.2
    exact rnth_nat N R V w hR hV (by omega)
  · have hz := Lib.hid (nthZ_bad h)
    go_enter Try.func26, Try.ntmps26
    go_wp2_with fail
    refine (form_any _ _ _).mono ?_
    rintro e w1 ⟨rfl, rfl⟩
    cases hf : frmB r v
    · go_wp2_with fail
      go_ret2
      exact ⟨ret_r2 hz.out, 0, rfl⟩
    · have hn0 : i < 0 := by rw [hf] at h; simp at h; omega
      clear h hf
      go_wp2_with fail
      go_ret2
      exact ⟨ret_r2 hz.out, 0, rfl⟩
set_option maxHeartbeats 1600000 in
theorem rrank_any (k r v : Int) (w : World) : Calls Try.prog 25 #[.int .i64 k, .int .i64 r, .int .i64 v] w fun e w' => e = .returned (R2 (rankZ k r v)) ∧ ∃ n, w' = w.drewN n := by
  cases hf : frmB r v
  · have hz := Lib.hid (rankZ_bad (k := k) hf)
    go_enter Try.func25, Try.ntmps25
    go_wp2_with fail
    refine (form_any _ _ _).mono ?_
    rintro e w1 ⟨rfl, rfl⟩
    rw [hf]
    go_wp2_with fail
    go_ret2
    exact ⟨ret_r2 hz.out, 0, rfl⟩
  · cases hi : isZ k r v
    · have hz := Lib.hid (rankZ_none (k := k) hf hi)
      go_enter Try.func25, Try.ntmps25
      go_wp2_with fail
      refine (form_any _ _ _).mono ?_
      rintro e w1 ⟨rfl, rfl⟩
      rw [hf]
      go_wp2_with fail
      refine (ris_any _ _ _ _).mono ?_
      rintro e w1 ⟨rfl, hw1⟩
      rw [hi]
      have HW := Lib.hid hw1
      clear hw1
      go_wp2_with fail
      go_ret2
      exact ⟨ret_r2 hz.out, HW.out⟩
    · obtain ⟨R, V, rfl, rfl, hR, hV⟩ := frm_nat hf
      obtain ⟨K, rfl⟩ : ∃ K : Nat, k = K := by
        unfold isZ at hi
        rw [hf] at hi
        cases hc : cdB k
        · rw [hc] at hi; simp at hi
        · exact Int.eq_ofNat_of_zero_le (cdB_iff.1 hc).1
      have hcc : isC R V K = true := by rw [← isZ_nat hR hV]; exact hi
      have hK := (isC_iff.1 hcc).1
      have hz := Lib.hid (rankZ_nat hR hV hcc)
      clear hcc
      go_enter Try.func25, Try.ntmps25
      go_wp2_with fail
      refine (form_any _ _ _).mono ?_
      rintro e w1 ⟨rfl, rfl⟩
      rw [hf]
      clear hf
      go_wp2_with fail
      refine (ris_any _ _ _ _).mono ?_
      rintro e w1 ⟨rfl, hw1⟩
      rw [hi]
      have HW0 := Lib.hid hw1
      clear hw1 hi
      go_wp2_with fail
      go_loopw [8, 9] (fun m x wr => ∃ X : Nat, X ≤ K ∧ x = .int .i64 X ∧ m = .int .i64 (cnt R V X : Nat) ∧ Hid (∃ n, wr = w.drewN n)) (fun _ x _ => K - (intOf x).toNat)
      case atStart => exact ⟨0, by omega, rfl, rfl, HW0⟩
      case round =>
        clear HW0
        obtain ⟨X, hX, rfl, rfl, HW⟩ := hrel
        by_cases hlt : X < K
        · have hlt' : (X : Int) < (K : Int) := by omega
          go_wp2_with fail
          refine (ris_nat X R V _ hR hV (by omega)).mono ?_
          rintro e w2 ⟨rfl, hw1⟩
          have HW1 := Lib.hid (drew_add HW.out hw1)
          clear hw1
          have hb := cnt_bd R V X
          cases hc : isC R V X
          · have HC := Lib.hid (cnt_no hc)
            clear hc
            go_wp2_with fail
            go_roundw
            case rel => exact ⟨X + 1, by omega, by go_num, by rw [HC.out], HW1⟩
            case measure => simp [intOf] <;> omega
          · have HC := Lib.hid (cnt_yes hc)
            clear hc
            go_wp2_with fail
            go_roundw
            case rel => exact ⟨X + 1, by omega, by go_num, by rw [HC.out]; go_num, HW1⟩
            case measure => simp [intOf] <;> omega
        · obtain rfl : X = K := by omega
          go_wp2_with fail
          go_ret2
          exact ⟨ret_r2 hz.out, HW.out⟩
end Go.Proofs.Ytcplanafcnnodaa
