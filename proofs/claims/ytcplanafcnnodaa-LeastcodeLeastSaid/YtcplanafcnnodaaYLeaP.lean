/-
  Stage 13, plain: no code can be made less.
-/
import Derived.Test.YtcplanafcnnodaaYLawA
import Derived.Test.YtcplanafcnnodaaYMx
import Derived.Test.YtcplanafcnnodaaKLawM
import Derived.Test.YtcplanafcnnodaaJRef2
set_option linter.unusedSimpArgs false
set_option linter.unusedVariables false
namespace Go.Proofs.Ytcplanafcnnodaa
open Go.RowKit Go.Lib

/-- A relation to some item ahead fails where y has the number less. -/
def Hinder (l : List It) (v : List Int) (y : Nat) (less : Int) : Prop := ∃ x, x < l.length ∧ rel l x y ≠ 0 ∧ less < v.getD x 0 + str1 l x y
theorem sol_hinder {l : List It} {wt : Int} {bs v : List Int} (hf : FormOk l wt) (h : Sol l wt bs v) {y : Nat} (hy : y < l.length) {B : Nat} (hB : (B : Int) < v.getD y 0) (hc : isC (rnd l y).toNat wt.toNat B = true) : Hinder l v y (B : Int) := by
  rcases Int.lt_or_le (B : Int) (bs.getD y 0) with h1 | h1
  · rcases (h.base y hy).hit with e | ⟨x, hx, e⟩
    · omega
    · have e' : via l v x y = bs.getD y 0 := e
      by_cases g : rel l x y = 0
      · rw [via_zero g] at e'; omega
      · rw [via_str g] at e'
        exact ⟨x, hx, g, by omega⟩
  · exfalso
    obtain ⟨j, hj, hjk⟩ := next_code_le (h.base y hy).pos (hf.rb y hy) hf.wb h1 hc
    rw [h.code y hy] at hj
    injection hj with hj
    omega
/-- The index of an item's code, and the code before it. -/
theorem sol_rank {l : List It} {wt : Int} {bs v : List Int} (hf : FormOk l wt) (h : Sol l wt bs v) (y : Nat) (hy : y < l.length) :
    rankZ (v.getD y 0) (rnd l y) wt = (0, 0) ∨ ∃ (I B : Nat), I < 4096 ∧ B < 4096 ∧ rankZ (v.getD y 0) (rnd l y) wt = ((I : Int) + 1, 0) ∧ nthZ (I : Int) (rnd l y) wt = ((B : Int), 0) ∧ Hinder l v y (B : Int) := by
  obtain ⟨K, hK, hc⟩ := (h.plan hf).code y hy
  obtain ⟨R, hR⟩ := Int.eq_ofNat_of_zero_le (hf.rb y hy).1
  obtain ⟨V, hV⟩ := Int.eq_ofNat_of_zero_le hf.wb.1
  have hR2 : R ≤ 12 := by have := (hf.rb y hy).2; omega
  have hV2 : V ≤ 12 := by have := hf.wb.2; omega
  have hc' := hc
  rw [hR, hV, Int.toNat_natCast, Int.toNat_natCast] at hc
  have hbd := cnt_bd R V K
  have hvb := (h.bound hf y).1
  have hrk : rankZ (v.getD y 0) (rnd l y) wt = okN (cnt R V K) := by rw [hK, hR, hV]; exact rankZ_nat hR2 hV2 hc
  rcases Nat.eq_zero_or_pos (cnt R V K) with g | g
  · left; rw [hrk, g]; rfl
  · right
    obtain ⟨I, hI⟩ : ∃ I, cnt R V K = I + 1 := ⟨cnt R V K - 1, by omega⟩
    obtain ⟨B, h1, h2, h3⟩ := cnt_find (r := R) (w := V) (i := I) (n := K) (by omega)
    have hh : Hinder l v y (B : Int) := sol_hinder hf h hy (by omega) (by rw [hR, hV, Int.toNat_natCast, Int.toNat_natCast]; exact h2)
    refine ⟨I, B, by omega, by omega, ?_, ?_, hh⟩
    · rw [hrk, hI]; exact Prod.ext (by show ((I + 1 : Nat) : Int) = _; omega) rfl
    · rw [hR, hV]; exact nthZ_hit hR2 hV2 h2 h3
end Go.Proofs.Ytcplanafcnnodaa
