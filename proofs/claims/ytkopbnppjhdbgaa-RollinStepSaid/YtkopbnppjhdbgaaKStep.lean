/-
  Stage 12: bit lengths: Steps, Len64 and the reference's Long.
-/
import Derived.Test.YtkopbnppjhdbgaaKRef2
set_option linter.unusedSimpArgs false
set_option linter.unusedVariables false
namespace Go.Proofs.Ytkopbnppjhdbgaa
open Go.RowKit

/-- The bit length. -/
def lnF : Nat → Nat → Nat
  | 0, _ => 0
  | f + 1, x => if x = 0 then 0 else lnF f (x / 2) + 1
def ln (x : Nat) : Nat := lnF 12 x
theorem lnF_more (f : Nat) : ∀ x, x < 2 ^ f → lnF (f + 1) x = lnF f x := by
  induction f with
  | zero => intro x hx; obtain rfl : x = 0 := by simpa using hx
            rfl
  | succ f ih =>
    intro x hx
    rw [Nat.pow_succ] at hx
    show (if x = 0 then 0 else lnF (f + 1) (x / 2) + 1) = (if x = 0 then 0 else lnF f (x / 2) + 1)
    rw [ih (x / 2) (by omega)]
theorem ln_zero : ln 0 = 0 := rfl
theorem ln_step {x : Nat} (h : x < 4096) (h0 : x ≠ 0) : ln x = ln (x / 2) + 1 := by
  show (if x = 0 then 0 else lnF 11 (x / 2) + 1) = lnF 12 (x / 2) + 1
  rw [if_neg h0, lnF_more 11 (x / 2) (by omega)]
theorem lnF_le (f : Nat) : ∀ x, lnF f x ≤ f := by
  induction f with
  | zero => intro x; exact Nat.le_refl _
  | succ f ih =>
    intro x
    show (if x = 0 then 0 else lnF f (x / 2) + 1) ≤ f + 1
    have := ih (x / 2)
    by_cases h : x = 0
    · rw [if_pos h]; omega
    · rw [if_neg h]; omega
theorem ln_le (x : Nat) : ln x ≤ 12 := lnF_le 12 x
def stepsZ (k : Int) : Int × Int := if cdB k = true then okN (ln k.toNat) else (0, 2)
theorem stepsZ_bad {k : Int} (h : ¬ cdB k = true) : stepsZ k = (0, 2) := by unfold stepsZ; rw [if_neg h]
theorem stepsZ_nat {K : Nat} (h : K < 4096) : stepsZ (K : Int) = okN (ln K) := by
  unfold stepsZ
  rw [if_pos (cdB_iff.2 (by omega))]; rfl
def ln256B (x : Nat) : Bool := decide (x < 256) || ln x == ln (x / 256) + 8
set_option maxRecDepth 100000 in
theorem ln256_all : allT ln256B 12 0 = true := by decide +kernel
theorem ln_256 {x : Nat} (h : x < 4096) (h8 : 256 ≤ x) : ln x = ln (x / 256) + 8 := by
  have e := allT_all ln256_all h
  unfold ln256B at e
  rw [decide_eq_false (by omega)] at e
  simpa using e
set_option maxRecDepth 100000 in
theorem len64_any (x : Nat) (w : World) (hx : x < 4096) : Calls Try.prog 79 #[.int .u64 (x : Int)] w fun e w' => e = .returned (.int .i64 (ln x : Int)) ∧ w = w' := by
  have h16 : ¬ (65536 : Int) ≤ (x : Int) := by omega
  have h32 : ¬ (4294967296 : Int) ≤ (x : Int) := by omega
  by_cases h8 : 256 ≤ x
  · have h8' : (256 : Int) ≤ (x : Int) := by omega
    go_enter Try.func79, Try.ntmps79
    generalize hT : (ByteArray.mk _) = T
    have HT := Lib.hid (show T.size = 256 ∧ ∀ i, i < 256 → (T.data.getD i 0).toNat = ln i by
      rw [← hT]
      refine ⟨by decide +kernel, ?_⟩
      decide +kernel)
    clear hT
    generalize hQ : bodyPost _ _ _ = Q
    have HQ := Lib.hid hQ
    clear hQ
    go_upto_region 4 with fail
    go_upto_region 7 with fail
    go_upto_region 10 with fail
    obtain ⟨X, hX⟩ : ∃ X, X = x / 256 := ⟨_, rfl⟩
    have hc : (x : Int) / 256 = (X : Int) := by omega
    have hXl : X < 16 := by omega
    have hL := Lib.hid (show ln x = ln X + 8 by rw [hX]; exact ln_256 hx h8)
    rw [hc]
    clear hX hc
    have hsz := HT.out.1
    have hXs : X < T.size := by omega
    have HV := Lib.hid (show T[X].toNat = ln X from by
      have e := HT.out.2 X (by omega)
      rw [← e]
      unfold Array.getD
      rw [dif_pos (show X < T.data.size from hXs)]
      rfl)
    clear HT
    have hXi : (X : Int) < (T.size : Int) := by omega
    have WU : IntKind.u8.wrap (X : Int) = (X : Int) := IntWalk.u8_in _ (by omega)
    have hln := ln_le X
    have hb := HV.out
    clear hsz
    go_wp2_with fail
    rw [← HQ.out]
    go_ret
    exact ⟨ret_int (by rw [hL.out, ← HV.out]; first | done | omega | (unfold wrap64; omega)), rfl⟩
  · have h8' : ¬ (256 : Int) ≤ (x : Int) := by omega
    go_enter Try.func79, Try.ntmps79
    generalize hT : (ByteArray.mk _) = T
    have HT := Lib.hid (show T.size = 256 ∧ ∀ i, i < 256 → (T.data.getD i 0).toNat = ln i by
      rw [← hT]
      refine ⟨by decide +kernel, ?_⟩
      decide +kernel)
    clear hT
    generalize hQ : bodyPost _ _ _ = Q
    have HQ := Lib.hid hQ
    clear hQ
    go_upto_region 4 with fail
    go_upto_region 7 with fail
    go_upto_region 10 with fail
    obtain ⟨X, hX⟩ : ∃ X, X = x := ⟨_, rfl⟩
    have hXl : X < 256 := by omega
    have hL := Lib.hid (show ln x = ln X by rw [hX])
    rw [← hX]
    clear hX
    have hsz := HT.out.1
    have hXs : X < T.size := by omega
    have HV := Lib.hid (show T[X].toNat = ln X from by
      have e := HT.out.2 X (by omega)
      rw [← e]
      unfold Array.getD
      rw [dif_pos (show X < T.data.size from hXs)]
      rfl)
    clear HT
    have hXi : (X : Int) < (T.size : Int) := by omega
    have WU : IntKind.u8.wrap (X : Int) = (X : Int) := IntWalk.u8_in _ (by omega)
    have hln := ln_le X
    have hb := HV.out
    clear hsz
    go_wp2_with fail
    rw [← HQ.out]
    go_ret
    exact ⟨ret_int (by rw [hL.out, ← HV.out]; first | done | omega | (unfold wrap64; omega)), rfl⟩
theorem len_any (x : Nat) (w : World) (hx : x < 4096) : Calls Try.prog 60 #[.int .u64 (x : Int)] w fun e w' => e = .returned (.int .i64 (ln x : Int)) ∧ w = w' := by
  go_enter Try.func60, Try.ntmps60
  go_wp2_with fail
  refine (len64_any x _ hx).mono ?_
  rintro e w' ⟨rfl, rfl⟩
  go_wp2
  go_ret
  exact ⟨rfl, rfl⟩
theorem steps_any (k : Int) (w : World) : Calls Try.prog 43 #[.int .i64 k] w fun e w' => e = .returned (R2 (stepsZ k)) ∧ w = w' := by
  cases h : cdB k
  · have hz := Lib.hid (stepsZ_bad (k := k) (fun g => by rw [h] at g; cases g))
    go_enter Try.func43, Try.ntmps43
    go_wp2_with fail
    refine (isCode_any _ _).mono ?_
    rintro e w1 ⟨rfl, rfl⟩
    rw [h]
    go_wp2_with fail
    go_ret2
    exact ⟨ret_r2 hz.out, rfl⟩
  · obtain ⟨K, rfl⟩ := Int.eq_ofNat_of_zero_le (cdB_iff.1 h).1
    have hK : K < 4096 := by have := (cdB_iff.1 h).2; omega
    have hz := Lib.hid (stepsZ_nat hK)
    have hw : IntKind.u64.wrap (K : Int) = (K : Int) := IntWalk.u64_in _ (by omega)
    go_enter Try.func43, Try.ntmps43
    go_wp2_with fail
    refine (isCode_any _ _).mono ?_
    rintro e w1 ⟨rfl, rfl⟩
    rw [h]
    clear h
    go_wp2_with fail
    refine (len_any _ _ hK).mono ?_
    rintro e w1 ⟨rfl, rfl⟩
    go_wp2_with fail
    go_ret2
    exact ⟨ret_r2 hz.out, rfl⟩
end Go.Proofs.Ytkopbnppjhdbgaa
