/-
  Stage 9, plain: a number is read as it is written.
-/
import Derived.Test.YtdoifaifhikkjaaGreatDoorLRound
import Derived.Lib.AtoiAllCases
set_option linter.unusedSimpArgs false
set_option linter.unusedVariables false
namespace Go.Proofs.YtdoifaifhikkjaaGreatDoor
open Go.RowKit Go.Lib

theorem toNat_dig {n : Nat} (h : n < 10) : (UInt8.ofNat (48 + n)).toNat = 48 + n := by
  rw [UInt8.toNat_ofNat']; omega
theorem parse_dec : ∀ (u : Nat), u ≤ 1000000000000 → ∀ (r : List UInt8), Lib.parseUint10 0 (Lib.decDigits u ++ r) = Lib.parseUint10 u r := by
  intro u
  induction u using Nat.strongRecOn with
  | ind u ih =>
    intro hu r
    have step : ∀ (acc d : Nat) (r : List UInt8), acc ≤ 1000000000000 → d < 10 → Lib.parseUint10 acc (UInt8.ofNat (48 + d) :: r) = Lib.parseUint10 (acc * 10 + d) r := by
      intro acc d r ha hd
      conv => lhs; unfold Lib.parseUint10
      rw [toNat_dig hd, if_pos (by omega), if_neg (by omega), if_neg (by omega), show 48 + d - 48 = d by omega]
    by_cases hs : u < 10
    · rw [dd_small hs]
      have := step 0 u r (by omega) hs
      rw [Nat.zero_mul, Nat.zero_add] at this
      exact this
    · rw [dd_big hs, List.append_assoc, ih (u / 10) (by omega) (by omega)]
      have := step (u / 10) (u % 10) r (by omega) (by omega)
      rw [show u / 10 * 10 + u % 10 = u by omega] at this
      exact this
theorem dec_dig : ∀ (u : Nat), ∀ c ∈ Lib.decDigits u, dgc c = true := by
  intro u
  induction u using Nat.strongRecOn with
  | ind u ih =>
    intro c hc
    have key : ∀ d, d < 10 → dgc (UInt8.ofNat (48 + d)) = true := by
      intro d hd
      unfold dgc
      rw [toNat_dig hd]
      exact decide_eq_true (by omega)
    by_cases hs : u < 10
    · rw [dd_small hs] at hc
      simp only [List.mem_cons, List.not_mem_nil, or_false] at hc
      subst hc
      exact key u hs
    · rw [dd_big hs] at hc
      rcases List.mem_append.1 hc with hc | hc
      · exact ih (u / 10) (by omega) c hc
      · simp only [List.mem_cons, List.not_mem_nil, or_false] at hc
        subst hc
        exact key _ (by omega)
theorem dec_head : ∀ (u : Nat), 1 ≤ u → ∃ c r, Lib.decDigits u = c :: r ∧ c ≠ 48 := by
  intro u
  induction u using Nat.strongRecOn with
  | ind u ih =>
    intro hu
    by_cases hs : u < 10
    · refine ⟨_, [], dd_small hs, fun e => ?_⟩
      have := congrArg UInt8.toNat e
      rw [toNat_dig hs] at this
      have h48 : (48 : UInt8).toNat = 48 := rfl
      omega
    · obtain ⟨c, r, e, h⟩ := ih (u / 10) (by omega) (by omega)
      exact ⟨c, r ++ [UInt8.ofNat (48 + u % 10)], by rw [dd_big hs, e]; rfl, h⟩
theorem dec_ne (u : Nat) : Lib.decDigits u ≠ [] := by
  by_cases hs : u < 10
  · rw [dd_small hs]; simp
  · rw [dd_big hs]; simp
theorem mag_dec {u : Nat} (hu : u ≤ 1000000000000) : Lib.parseMag (Lib.decDigits u) = .ok u := by
  unfold Lib.parseMag
  rw [if_neg (dec_ne u)]
  have := parse_dec u hu []
  rw [List.append_nil] at this
  rw [this]
  unfold Lib.parseUint10
  rfl
theorem dgc_bd {c : UInt8} (h : dgc c = true) : 48 ≤ c.toNat ∧ c.toNat ≤ 57 := by
  unfold dgc at h; simpa using h
theorem atoi_itoa {z : Int} (h : -1000000000 ≤ z ∧ z ≤ 1000000000) : Lib.atoiAll (Lib.itoa z) = .ok z := by
  by_cases h0 : z < 0
  · obtain ⟨u, rfl⟩ : ∃ u : Nat, z = -(u : Int) := ⟨z.natAbs, by omega⟩
    rw [Lib.itoa_neg u (by omega), Lib.atoiAll_minus, mag_dec (by omega)]
    unfold Lib.signed
    simp only
    rw [if_neg (by omega)]
  · obtain ⟨u, rfl⟩ : ∃ u : Nat, z = (u : Int) := ⟨z.toNat, by omega⟩
    rw [Lib.itoa_nonneg]
    cases hd : Lib.decDigits u with
    | nil => exact absurd hd (dec_ne u)
    | cons c r =>
      have hc := dgc_bd (dec_dig u c (by rw [hd]; simp))
      rw [Lib.atoiAll_plain c r (by omega) (by omega), ← hd, mag_dec (by omega)]
      unfold Lib.signless
      simp only
      rw [if_neg (by omega)]
theorem good_itoa {z : Int} (h : -1000000000 ≤ z ∧ z ≤ 1000000000) : goodNum (Lib.itoa z) = some z := by
  rw [goodNum_ok (atoi_itoa h), if_pos h]
theorem cons_dec (u : Nat) : consB (bs (Lib.decDigits u)) dgL = true := by
  unfold consB
  have h1 : (bs (Lib.decDigits u)).size ≠ 0 := by
    show (Lib.decDigits u).length ≠ 0
    intro e
    exact dec_ne u (List.length_eq_zero_iff.1 e)
  rw [decide_eq_true h1, Bool.true_and]
  apply List.all_eq_true.2
  intro c hc
  rw [dg_has]
  exact dec_dig u c hc
theorem num_itoa {z : Int} : isNumL (Lib.itoa z) = true := by
  unfold isNumL
  by_cases h0 : z < 0
  · obtain ⟨u, rfl⟩ : ∃ u : Nat, z = -(u : Int) := ⟨z.natAbs, by omega⟩
    rw [Lib.itoa_neg u (by omega)]
    have hm : magL (45 :: Lib.decDigits u) = Lib.decDigits u := by unfold magL; simp [Lib.trimPrefix, Lib.hasPrefix]
    obtain ⟨c, r, e, hc⟩ := dec_head u (by omega)
    rw [hm, cons_dec, e]
    simp [hc]
  · obtain ⟨u, rfl⟩ : ∃ u : Nat, z = (u : Int) := ⟨z.toNat, by omega⟩
    rw [Lib.itoa_nonneg]
    by_cases hu : u = 0
    · subst hu
      rw [dd_small (by decide)]
      rfl
    · obtain ⟨c, r, e, hc⟩ := dec_head u (by omega)
      have hm : magL (Lib.decDigits u) = Lib.decDigits u := by
        have h45 := dgc_bd (dec_dig u c (by rw [e]; simp))
        have hne : c ≠ 45 := fun g => by
          rw [g] at h45
          have : (45 : UInt8).toNat = 45 := rfl
          omega
        unfold magL
        rw [e]
        simp [Lib.trimPrefix, Lib.hasPrefix, hne, Ne.symm hne]
      rw [hm, cons_dec, e]
      simp [hc]
end Go.Proofs.YtdoifaifhikkjaaGreatDoor
