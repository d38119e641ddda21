/-
  Stage 12: the walks of CodeRounds and CodeReal.
-/
import Derived.Test.YtbdcegbfmpkmhaaKExaW
set_option linter.unusedSimpArgs false
set_option linter.unusedVariables false
namespace Go.Proofs.Ytbdcegbfmpkmhaa
open Go.RowKit

set_option maxRecDepth 100000 in
set_option maxHeartbeats 3200000 in
theorem rounds_walk (t : Option Addr) (len cap : Nat) (zs : List Int) (w : World) (h : IsRow .i64 w t len cap zs) :
    Calls Try.prog 7 #[.slice t len cap] w fun e w' => e = .returned (.bool true) ∧ Below w.heap.size w w' := by
  have HR := Lib.hid (fun T => Rnd.new (T := T) h)
  clear h
  go_enter Try.func7, Try.ntmps7
  go_wp2_with fail
  refine (new_any _ _ _ _).mono ?_
  rintro e w1 ⟨rfl, rfl⟩
  have Q0 := Lib.hid (HR.out 41)
  clear HR
  go_wp2_with fail
  refine (form_law _ _ _ Q0.out.mkr (by omega)).mono ?_
  rintro e w2 ⟨R, V, rfl, hR, hV, k1, k2⟩
  have Q1 := Lib.hid (Q0.out.step k2 k1)
  clear Q0 k1 k2
  go_wp2_with fail
  refine (next_any _ _ _ _ Q1.out.mkr (by omega) (by omega) (by omega)).mono ?_
  rintro e w3 ⟨n, rfl, n1, n2, k1, k2⟩
  have Q2 := Lib.hid (Q1.out.step k2 k1)
  clear Q1 k1 k2
  obtain ⟨I, rfl⟩ := Int.eq_ofNat_of_zero_le n1
  have hI : I < 200 := by omega
  clear n1 n2
  go_wp2_with fail
  refine (nth_code _ _ _ _).mono ?_
  rintro e w4 ⟨rfl, rfl⟩
  generalize hz1 : nthZ (I : Int) (R : Int) (V : Int) = p1
  have HZ1 := Lib.hid hz1
  clear hz1
  go_wp2_with fail
  refine (nth_code _ _ _ _).mono ?_
  rintro e w4 ⟨rfl, rfl⟩
  rcases nth_cases (R := 0) I (by decide) hV with ⟨B, hc, hi, hz⟩ | ⟨hle, hz⟩
  · have hz' : nthZ (I : Int) 0 (V : Int) = okN B := hz
    rw [hz']
    have hB := (isC_iff.1 hc).1
    have hpw := pow_le4096 (show 12 - R ≤ 12 by omega)
    have hsub : (12 : Int) - (R : Int) = ((12 - R : Nat) : Int) := by omega
    have hsub0 : ¬ (12 : Int) - (R : Int) < 0 := by omega
    have HPR := Lib.hid (pow_run (show 12 - R ≤ 12 by omega))
    by_cases hlt : B < 2 ^ (12 - R)
    · have hh := rounds_hit hR hV hc hi hlt
      obtain ⟨A, hA⟩ : ∃ A, A = B * 2 ^ R + mN R := ⟨_, rfl⟩
      rw [← hA] at hh
      have hp1 : p1 = okN A := by rw [← HZ1.out]; exact hh.2
      subst hp1
      have hb := hh.1
      obtain ⟨T, hT⟩ : ∃ T, T = B * 2 ^ R := ⟨_, rfl⟩
      obtain ⟨M, hM⟩ : ∃ M, M = 2 ^ R := ⟨_, rfl⟩
      have hM0 := Nat.two_pow_pos R
      have hAM : A + 1 = T + M := by rw [hA, hT, hM]; unfold mN; omega
      obtain ⟨S, hS⟩ : ∃ S, S = T + M := ⟨_, rfl⟩
      have e1 : ((B : Int) * 2 ^ R) = (T : Int) := by rw [hT, Int.natCast_mul]; simp
      have e3 : (T : Int) + (M : Int) = (S : Int) := by omega
      have e4 : (S : Int) - 1 = (A : Int) := by omega
      have S1 := Lib.hid (show IntKind.i64.wrap ((B : Int) * 2 ^ R) = (T : Int) by rw [e1, wrapI _ (by omega)])
      have S2 := Lib.hid (show IntKind.i64.wrap (2 ^ R) = (M : Int) by rw [hM]; exact powW hR)
      have S3 := Lib.hid (show IntKind.i64.wrap ((T : Int) + (M : Int)) = (S : Int) by rw [e3, wrapI _ (by omega)])
      have S4 := Lib.hid (show IntKind.i64.wrap ((S : Int) - 1) = (A : Int) by rw [e4, wrapI _ (by omega)])
      obtain ⟨P, hP⟩ : ∃ P, P = 2 ^ (12 - R) := ⟨_, rfl⟩
      rw [← hP] at hlt hpw HPR
      have hge : ¬ (P : Int) ≤ (B : Int) := by omega
      have hpr := HPR.out
      clear hh hz hz' HZ1 hc hi hA hT hM hM0 hP hAM hS e1 e3 e4 hlt
      go_upto_region 8 with fail
      have s1 := S1.out
      have s2 := S2.out
      have s3 := S3.out
      have s4 := S4.out
      clear hpr HPR S1 S2 S3 S4
      go_quiet ((go_at_call 13; exact Calls.quiet_of_same ((sane_any _).mono fun _ _ h => ⟨h.1, h.2.symm⟩)))
      go_wp2_with fail
      go_ret
      exact ⟨rfl, bdn Q2.out.bel⟩
    · have hp1 : p1 = (0, 15) := by rw [← HZ1.out]; exact rounds_high hR hV hi (by omega)
      subst hp1
      obtain ⟨P, hP⟩ : ∃ P, P = 2 ^ (12 - R) := ⟨_, rfl⟩
      rw [← hP] at hlt hpw HPR
      have hge : (P : Int) ≤ (B : Int) := by omega
      have hpr := HPR.out
      clear hz hz' HZ1 hc hi hP hlt
      go_wp2_with fail
      refine (sane_any _).mono ?_
      rintro e w8 ⟨rfl, rfl⟩
      go_wp2_with fail
      go_ret
      exact ⟨rfl, Q2.out.bel⟩
  · have hz' : nthZ (I : Int) 0 (V : Int) = (0, 15) := hz
    rw [hz']
    have hp1 : p1 = (0, 15) := by rw [← HZ1.out]; exact rounds_none hR hV hle
    subst hp1
    clear HZ1 hz hz' hle
    go_wp2_with fail
    refine (sane_any _).mono ?_
    rintro e w8 ⟨rfl, rfl⟩
    go_wp2_with fail
    go_ret
    exact ⟨rfl, Q2.out.bel⟩
end Go.Proofs.Ytbdcegbfmpkmhaa
