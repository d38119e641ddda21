/-
  Stage 12: the program's Nth and Rank.
-/
import Derived.Test.YtcplanafcnnodaaKFns
set_option linter.unusedSimpArgs false
set_option linter.unusedVariables false
namespace Go.Proofs.Ytcplanafcnnodaa
open Go.RowKit

theorem count_at {R V : Nat} (hR : R ≤ 12) (hV : V ≤ 12) : countZ 12 (R : Int) (V : Int) = okN (cnt R V 4096) := countZ_nat (S := 12) hR hV (by decide)
set_option maxHeartbeats 1600000 in
theorem nth_codeA (I0 R V : Nat) (w : World) (hR : R ≤ 12) (hV : V ≤ 12) : Calls Try.prog 34 #[.int .i64 (I0 : Int), .int .i64 (R : Int), .int .i64 (V : Int)] w fun e w' => e = .returned (R2 (nthZ I0 R V)) ∧ w = w' := by
  have hcz := Lib.hid (count_at hR hV)
  go_enter Try.func34, Try.ntmps34
  go_wp2_with fail
  refine (count_code _ _ _ _).mono ?_
  rintro e w1 ⟨rfl, rfl⟩
  rw [hcz.out]
  obtain ⟨C, hC⟩ : ∃ x, x = cnt R V 4096 := ⟨_, rfl⟩
  rw [← hC]
  have hcb : C ≤ 4096 := by rw [hC]; exact cnt_bd _ _ _
  have HC := Lib.hid hC
  clear hC hcz
  by_cases hi : C ≤ I0
  · have hz := Lib.hid (nthZ_none (I := I0) hR hV (by rw [← HC.out]; exact hi))
    have hi' : (C : Int) ≤ (I0 : Int) := by omega
    go_wp2_with fail
    go_ret2
    exact ⟨ret_r2 hz.out, rfl⟩
  · have hi' : ¬ (C : Int) ≤ (I0 : Int) := by omega
    have hS := Lib.hid (NtI.start (I0 := I0) hR hV (by rw [← HC.out]; omega))
    have hIb : I0 ≤ 4096 := by omega
    go_wp2_with fail
    refine (missed_any _ _ hR).mono ?_
    rintro e w1 ⟨rfl, rfl⟩
    have hm := mN_lt hR
    clear hi hi'
    go_wp2_with fail
    go_loop [0, 2, 10, 11, 12] (fun i v k b u => ∃ B H I Vc : Nat, B ≤ 12 ∧ i = .int .i64 I ∧ v = .int .i64 Vc ∧ k = .int .i64 ((H + mN R : Nat) : Int) ∧ b = .int .i64 ((B : Int) - 1) ∧ Hid (NtI R V I0 B H I Vc)) (fun _ _ _ b _ => (intOf b + 1).toNat)
    case atStart => exact ⟨12, 0, I0, V, by omega, rfl, rfl, by simp, rfl, hS⟩
    case round =>
      clear hS
      obtain ⟨B, H, I, Vc, hB, rfl, rfl, rfl, rfl, hN⟩ := hrel
      have hRB := hN.out.rb
      have hvc := hN.out.vc
      have hle := hN.out.le
      by_cases hlt : R < B
      · obtain ⟨b, rfl⟩ : ∃ b, B = b + 1 := ⟨B - 1, by omega⟩
        have hbI : ((b + 1 : Nat) : Int) - 1 = (b : Int) := by omega
        rw [hbI]
        have hge : (R : Int) ≤ (b : Int) := by omega
        have hsub : (b : Int) - (R : Int) = ((b - R : Nat) : Int) := by omega
        have hca := Lib.hid (cnt_at (w := Vc) (show R ≤ b by omega) (by omega) hvc)
        go_wp2_with fail
        clear hsub
        refine (choices_any _ _ _ (by omega) hvc).mono ?_
        rintro e w1 ⟨rfl, rfl⟩
        obtain ⟨W, hW⟩ : ∃ x, x = chN (b - R) Vc := ⟨_, rfl⟩
        rw [← hW]
        have hca2 := Lib.hid (show cnt R Vc (2 ^ b) = W by rw [hca.out, hW])
        clear hW hca
        by_cases hg : W ≤ I
        · have hT := hN.out.take (by omega) (by rw [hca2.out]; exact hg)
          have hv1 := hT.1
          have hT2 := Lib.hid hT.2
          rw [hca2.out] at hT2
          have hor := Lib.hid (or_bit (s := mN R) (by have := hN.out.mod; exact this) (by have h1 := Nat.two_pow_pos R; have h2 := Nat.pow_le_pow_right (show 0 < 2 by decide) (show R ≤ b by omega); unfold mN; omega))
          have htop := hN.out.top
          have hpb := pow_le12 (show b < 12 by omega)
          have hpd := pow_dbl b
          have hpp := Nat.two_pow_pos b
          have hoi := orI (H + mN R) (2 ^ b) (by omega) (by omega)
          have hpr := pow_run (show b ≤ 12 by omega)
          rw [hor.out, ← hpr] at hoi
          have hg' : (W : Int) ≤ (I : Int) := by omega
          have HOI := Lib.hid hoi
          clear hT hg htop hpb hpd hpr hpp hoi
          go_wp2_with fail
          go_round
          case rel => exact ⟨b, H + 2 ^ b, I - W, Vc - 1, by omega, by rw [show ((I - W : Nat) : Int) = (I : Int) - (W : Int) by omega], by rw [show ((Vc - 1 : Nat) : Int) = (Vc : Int) - 1 by omega], by rw [← HOI.out, Int.natCast_add], by go_num, hT2⟩
          case measure => simp [intOf] <;> omega
        · have hK := Lib.hid (hN.out.keep (by omega) (by rw [hca2.out]; omega))
          have hg' : ¬ (W : Int) ≤ (I : Int) := by omega
          go_wp2_with fail
          go_round
          case rel => exact ⟨b, H, I, Vc, by omega, rfl, rfl, rfl, by go_num, hK⟩
          case measure => simp [intOf] <;> omega
      · obtain rfl : B = R := by omega
        have hD := hN.out.done
        have hz := Lib.hid (nthZ_hit hR hV hD.1 hD.2)
        have hge : ¬ (B : Int) ≤ (B : Int) - 1 := by omega
        clear hD
        go_wp2_with fail
        go_ret2
        exact ⟨ret_r2 hz.out, rfl⟩
theorem nth_code (i r v : Int) (w : World) : Calls Try.prog 34 #[.int .i64 i, .int .i64 r, .int .i64 v] w fun e w' => e = .returned (R2 (nthZ i r v)) ∧ w = w' := by
  by_cases h : frmB r v = true ∧ 0 ≤ i
  · obtain ⟨R, V, rfl, rfl, hR, hV⟩ := frm_nat h.1
    obtain ⟨N, rfl⟩ := Int.eq_ofNat_of_zero_le h.2
    exact nth_codeA N R V w hR hV
  · have hz := Lib.hid (nthZ_bad h)
    go_enter Try.func34, Try.ntmps34
    go_wp2_with fail
    refine (count_code _ _ _ _).mono ?_
    rintro e w1 ⟨rfl, rfl⟩
    cases hf : frmB r v
    · rw [countZ_bad (s := 12) (r := r) (v := v) (fun g => by rw [hf] at g; cases g.1)]
      go_wp2_with fail
      go_ret2
      exact ⟨ret_r2 hz.out, rfl⟩
    · have hn0 : i < 0 := by rw [hf] at h; simp at h; omega
      obtain ⟨R, V, rfl, rfl, hR, hV⟩ := frm_nat hf
      rw [count_at hR hV]
      clear h hf
      go_wp2_with fail
      go_ret2
      exact ⟨ret_r2 hz.out, rfl⟩
end Go.Proofs.Ytcplanafcnnodaa
