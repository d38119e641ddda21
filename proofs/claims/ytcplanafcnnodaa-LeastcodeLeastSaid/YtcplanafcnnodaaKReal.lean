/-
  Stage 12: Real, the program's and the reference's.
-/
import Derived.Test.YtcplanafcnnodaaKStep
import Derived.Test.YtcplanafcnnodaaWApp
set_option linter.unusedSimpArgs false
set_option linter.unusedVariables false
namespace Go.Proofs.Ytcplanafcnnodaa
open Go.RowKit

/-- The bits from R on that are set, below B. -/
def blN (K R : Nat) : Nat → List Int
  | 0 => []
  | b + 1 => if R ≤ b ∧ K / 2 ^ b % 2 = 1 then blN K R b ++ [(b : Int)] else blN K R b
theorem blN_yes {K R b : Nat} (h : R ≤ b) (h2 : K / 2 ^ b % 2 = 1) : blN K R (b + 1) = blN K R b ++ [(b : Int)] := by
  show (if R ≤ b ∧ K / 2 ^ b % 2 = 1 then _ else _) = _
  rw [if_pos ⟨h, h2⟩]
theorem blN_no {K R b : Nat} (h2 : ¬ K / 2 ^ b % 2 = 1) : blN K R (b + 1) = blN K R b := by
  show (if R ≤ b ∧ K / 2 ^ b % 2 = 1 then _ else _) = _
  rw [if_neg (fun g => h2 g.2)]
theorem blN_low {K R : Nat} : ∀ b, b ≤ R → blN K R b = [] := by
  intro b
  induction b with
  | zero => intro _; rfl
  | succ b ih =>
    intro h
    show (if R ≤ b ∧ K / 2 ^ b % 2 = 1 then _ else _) = _
    rw [if_neg (fun g => by omega), ih (by omega)]
theorem blN_len (K R : Nat) : ∀ b, (blN K R b).length ≤ b := by
  intro b
  induction b with
  | zero => exact Nat.le_refl _
  | succ b ih =>
    by_cases h : R ≤ b ∧ K / 2 ^ b % 2 = 1
    · rw [blN_yes h.1 h.2, List.length_append]; simp; omega
    · show (if R ≤ b ∧ K / 2 ^ b % 2 = 1 then _ else _ : List Int).length ≤ _
      rw [if_neg h]; omega
/-- What Real answers. -/
def realL (k r : Int) : List Int := if rndB r = true ∧ cdB k = true ∧ (k.toNat % 2 ^ r.toNat == 2 ^ r.toNat - 1) = true then blN k.toNat r.toNat 12 else []
def realE (k r : Int) : Int := if rndB r = true ∧ cdB k = true then (if (k.toNat % 2 ^ r.toNat == 2 ^ r.toNat - 1) = true then 0 else 15) else 2
theorem real_bad {k r : Int} (h : ¬ (rndB r = true ∧ cdB k = true)) : realL k r = [] ∧ realE k r = 2 := by
  unfold realL realE
  rw [if_neg (fun g => h ⟨g.1, g.2.1⟩), if_neg h]
  exact ⟨rfl, rfl⟩
theorem rnd_yes {R : Nat} (h : R ≤ 12) : rndB (R : Int) = true := rndB_iff.2 (by omega)
theorem cd_yes {K : Nat} (h : K < 4096) : cdB (K : Int) = true := cdB_iff.2 (by omega)
theorem real_none {K R : Nat} (hR : R ≤ 12) (hK : K < 4096) (h : (K % 2 ^ R == 2 ^ R - 1) = false) : realL K R = [] ∧ realE K R = 15 := by
  unfold realL realE
  rw [rnd_yes hR, cd_yes hK]
  show (if true = true ∧ true = true ∧ (K % 2 ^ R == 2 ^ R - 1) = true then _ else _) = _ ∧ (if true = true ∧ true = true then (if (K % 2 ^ R == 2 ^ R - 1) = true then _ else _) else _) = _
  rw [h]
  exact ⟨rfl, rfl⟩
theorem real_yes {K R : Nat} (hR : R ≤ 12) (hK : K < 4096) (h : (K % 2 ^ R == 2 ^ R - 1) = true) : realL K R = blN K R 12 ∧ realE K R = 0 := by
  unfold realL realE
  rw [rnd_yes hR, cd_yes hK]
  show (if true = true ∧ true = true ∧ (K % 2 ^ R == 2 ^ R - 1) = true then _ else _) = _ ∧ (if true = true ∧ true = true then (if (K % 2 ^ R == 2 ^ R - 1) = true then _ else _) else _) = _
  rw [h]
  exact ⟨rfl, rfl⟩
theorem realL_len (k r : Int) : (realL k r).length ≤ 12 := by
  unfold realL
  by_cases h : rndB r = true ∧ cdB k = true ∧ (k.toNat % 2 ^ r.toNat == 2 ^ r.toNat - 1) = true
  · rw [if_pos h]; exact blN_len _ _ 12
  · rw [if_neg h]; exact Nat.zero_le _
/-- A list of the call's own, and an error. -/
def RealPost (zs : List Int) (x : Int) (w : World) (e : Ending) (w' : World) : Prop := ∃ v, e = .returned (.tuple #[v, .int .i64 x]) ∧ Own .i64 3 w' w.heap.size v zs ∧ Below w.heap.size w w'
end Go.Proofs.Ytcplanafcnnodaa
