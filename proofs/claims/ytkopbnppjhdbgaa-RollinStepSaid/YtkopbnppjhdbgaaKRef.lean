/-
  Stage 12: the reference's Is, Next, Count, Nth, Rank and Long, Steps.
-/
import Derived.Test.YtkopbnppjhdbgaaKSpec
import Derived.Test.YtkopbnppjhdbgaaReg
set_option linter.unusedSimpArgs false
set_option linter.unusedVariables false
namespace Go.Proofs.Ytkopbnppjhdbgaa
open Go.RowKit

theorem rem_run {R K : Nat} : ((K : Int)).tmod ((2 ^ R : Nat) : Int) = ((K % 2 ^ R : Nat) : Int) := rfl
theorem powW {R : Nat} (hR : R ≤ 12) : IntKind.i64.wrap (2 ^ R) = ((2 ^ R : Nat) : Int) := by
  have := pow_le4096 hR
  have e : ((2 : Int) ^ R) = ((2 ^ R : Nat) : Int) := by simp
  rw [e, wrapI _ (by omega)]
set_option maxHeartbeats 1600000 in
theorem ris_nat (K R V : Nat) (w : World) (hR : R ≤ 12) (hV : V ≤ 12) (hK : K < 4096) : Calls Try.prog 46 #[.int .i64 (K : Int), .int .i64 (R : Int), .int .i64 (V : Int)] w fun e w' => e = .returned (.bool (isC R V K)) ∧ ∃ n, w' = w.drewN n := by
  have hf := frm_yes hR hV
  obtain ⟨P, hP⟩ : ∃ x, x = 2 ^ R := ⟨_, rfl⟩
  have h1 := pow_le4096 hR
  have h2 := Nat.two_pow_pos R
  have hp := pow_run hR
  have hp2 := powW hR
  have hshr := cast_shr K R
  have hdl := Nat.div_le_self K (2 ^ R)
  rw [← hP] at h1 h2 hp hp2 hshr hdl
  have HP := Lib.hid hP
  clear hP
  have hne : ((P : Int) == 0) = false := beq_eq_false_iff_ne.2 (by omega)
  have hne2 : ¬ (P : Int) = 0 := by omega
  have hk' : ¬ (4096 : Int) ≤ (K : Int) := by omega
  have hk2 : decide ((4096 : Int) ≤ (K : Int)) = false := decide_eq_false hk'
  have hk3 : decide ((K : Int) < 0) = false := decide_eq_false (by omega)
  have hsb : (P : Int) - 1 = ((P - 1 : Nat) : Int) := by omega
  have hsw : IntKind.i64.wrap ((P : Int) - 1) = ((P - 1 : Nat) : Int) := by rw [hsb, wrapI _ (by omega)]
  go_enter Try.func46, Try.ntmps46
  go_upto_region 1 with fail
  go_quiet ((go_at_call 45; exact Calls.quiet_of_same ((form_any _ _ _).mono fun _ _ h => ⟨h.1, h.2.symm⟩)))
  generalize hdr : w.drewN _ = w2
  have HD := Lib.hid (show ∃ n, w2 = w.drewN n from ⟨_, hdr.symm⟩)
  clear hdr
  by_cases hm : K % P = P - 1
  · have HE := Lib.hid (show isC R V K = decide (pc (K / P) ≤ V) by
      unfold isC
      rw [← HP.out, hm, decide_eq_true hK]; simp)
    have hb : ((K : Int) % (P : Int) != ((P - 1 : Nat) : Int)) = false := by rw [bne_eq_false_iff_eq]; omega
    rw [hb]
    clear hm hb hne hne2 hk' hk2 hk3 hsb hsw hp hp2
    have hX : K / P < 4096 := by omega
    go_wp2_with fail
    obtain ⟨Y, hY⟩ : ∃ x, x = K / P := ⟨_, rfl⟩
    have hcy : (K : Int) / (P : Int) = (Y : Int) := by rw [hY]; rfl
    rw [← hY] at HE hX
    rw [hcy]
    clear hY hshr hdl hcy
    go_loop [7, 8] (fun n x => ∃ m X : Nat, X < 4096 ∧ m ≤ 12 ∧ n = .int .i64 m ∧ x = .int .i64 X ∧ Hid (m + pc X = pc Y)) (fun _ x => (intOf x).toNat)
    case atStart => exact ⟨0, Y, by omega, by omega, rfl, rfl, Lib.hid (Nat.zero_add _)⟩
    case round =>
      obtain ⟨m, X, hX2, hm, rfl, rfl, HM⟩ := hrel
      by_cases h0 : 0 < X
      · have h0' : (0 : Int) < (X : Int) := by omega
        have hst := pc_step hX2
        have hml := HM.out
        have hpl := pc_le Y
        have HM2 := Lib.hid (show m + X % 2 + pc (X / 2) = pc Y by omega)
        have hb2 : m + X % 2 ≤ 12 := by omega
        clear hst hml
        go_wp2_with fail
        go_round
        case rel => exact ⟨m + X % 2, X / 2, by omega, hb2, by go_num, by go_num, HM2⟩
        case measure => simp [intOf] <;> omega
      · obtain rfl : X = 0 := by omega
        have hE2 := Lib.hid (show isC R V K = decide (m ≤ V) by rw [HE.out, ← HM.out, pc_zero, Nat.add_zero])
        go_wp2_with fail
        go_ret
        exact ⟨ret_bool (by rw [hE2.out]), HD.out⟩
  · have HE := Lib.hid (show isC R V K = false by
      unfold isC
      rw [← HP.out, show (K % P == P - 1) = false from beq_eq_false_iff_ne.2 hm]; simp)
    have hb : ((K : Int) % (P : Int) != ((P - 1 : Nat) : Int)) = true := by rw [bne_iff_ne]; omega
    rw [hb]
    clear hm hb
    go_wp2_with fail
    go_ret
    exact ⟨ret_bool HE.out.symm, HD.out⟩
theorem ris_bad (k r v : Int) (w : World) (h : ¬ (frmB r v = true ∧ (0 ≤ k ∧ k < 4096))) : Calls Try.prog 46 #[.int .i64 k, .int .i64 r, .int .i64 v] w fun e w' => e = .returned (.bool (isZ k r v)) ∧ ∃ n, w' = w.drewN n := by
  cases hf : frmB r v
  · have HE := Lib.hid (isZ_no (k := k) hf)
    go_enter Try.func46, Try.ntmps46
    go_upto_region 1 with fail
    go_quiet ((go_at_call 45; exact Calls.quiet_of_same ((form_any _ _ _).mono fun _ _ h => ⟨h.1, h.2.symm⟩)))
    generalize hdr : w.drewN _ = w2
    have HD := Lib.hid (show ∃ n, w2 = w.drewN n from ⟨_, hdr.symm⟩)
    clear hdr
    go_wp2_with fail
    go_ret
    exact ⟨ret_bool HE.out.symm, HD.out⟩
  · rw [hf] at h
    have HE := Lib.hid (isZ_cd (r := r) (v := v) (Bool.eq_false_iff.2 (fun g => h ⟨rfl, cdB_iff.1 g⟩)))
    have hk : k < 0 ∨ 0 ≤ k ∧ 4096 ≤ k := by simp at h; omega
    clear h
    rcases hk with hk | ⟨hk, hk2⟩
    · have hk3 : decide (k < 0) = true := decide_eq_true hk
      go_enter Try.func46, Try.ntmps46
      go_upto_region 1 with fail
      go_quiet ((go_at_call 45; exact Calls.quiet_of_same ((form_any _ _ _).mono fun _ _ h => ⟨h.1, h.2.symm⟩)))
      generalize hdr : w.drewN _ = w2
      have HD := Lib.hid (show ∃ n, w2 = w.drewN n from ⟨_, hdr.symm⟩)
      clear hdr
      go_wp2_with fail
      go_ret
      exact ⟨ret_bool HE.out.symm, HD.out⟩
    · have hk3 : decide (k < 0) = false := decide_eq_false (by omega)
      have hk4 : decide (4096 ≤ k) = true := decide_eq_true hk2
      go_enter Try.func46, Try.ntmps46
      go_upto_region 1 with fail
      go_quiet ((go_at_call 45; exact Calls.quiet_of_same ((form_any _ _ _).mono fun _ _ h => ⟨h.1, h.2.symm⟩)))
      generalize hdr : w.drewN _ = w2
      have HD := Lib.hid (show ∃ n, w2 = w.drewN n from ⟨_, hdr.symm⟩)
      clear hdr
      go_wp2_with fail
      go_ret
      exact ⟨ret_bool HE.out.symm, HD.out⟩
theorem ris_any (k r v : Int) (w : World) : Calls Try.prog 46 #[.int .i64 k, .int .i64 r, .int .i64 v] w fun e w' => e = .returned (.bool (isZ k r v)) ∧ ∃ n, w' = w.drewN n := by
  by_cases h : frmB r v = true ∧ (0 ≤ k ∧ k < 4096)
  · obtain ⟨R, V, rfl, rfl, hR, hV⟩ := frm_nat h.1
    obtain ⟨K, rfl⟩ := Int.eq_ofNat_of_zero_le h.2.1
    rw [isZ_nat hR hV]
    exact ris_nat K R V w hR hV (by have := h.2.2; omega)
  · exact ris_bad k r v w h
end Go.Proofs.Ytkopbnppjhdbgaa
