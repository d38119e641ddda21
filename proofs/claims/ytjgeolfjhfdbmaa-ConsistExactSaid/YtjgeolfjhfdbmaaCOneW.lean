/-
  Stage 6: the walk of ConsistOneByte.
-/
import Derived.Test.YtjgeolfjhfdbmaaCEnd
import Derived.Test.YtjgeolfjhfdbmaaCSane
import Derived.Test.YtjgeolfjhfdbmaaCMkL
import Derived.Test.YtjgeolfjhfdbmaaSrc
set_option linter.unusedSimpArgs false
set_option linter.unusedVariables false
namespace Go.Proofs.Ytjgeolfjhfdbmaa
open Go.RowKit

theorem enc_at {l : List Wag} (h : validL l = 0) (A : Option Addr) (c : Nat) (w : World) (R : RRow WR w A l) :
    Calls Try.prog 19 #[.slice A l.length c] w fun e w' => ∃ v, e = .returned (.tuple #[v, .int .i64 0]) ∧ Own .u8 5 w' w.heap.size v (enc l) ∧ Below w.heap.size w w' := by
  refine (penc_any l A c w R).mono ?_
  rintro e w' ⟨v, rfl, O, B⟩
  rw [encR_ok h] at O ⊢
  exact ⟨v, rfl, O, B⟩
theorem enc_len {l : List Wag} : (enc l).length = (bytesL l).length + 3 := by
  unfold enc encB pair
  rw [List.length_append, List.length_cons]
  rfl
theorem Own.cap {k : IntKind} {e : TypeId} {w : World} {base : Nat} {A : Option Addr} {n c : Nat} {zs : List Int} (h : Own k e w base (.slice A n c) zs) : c ≤ maxLen := by
  rcases h.2 with ⟨e1, _⟩ | ⟨g, cap, cur, e1, _, _, _, h5, _⟩
  · injection e1 with _ _ e2; subst e2; exact Nat.zero_le _
  · injection e1 with _ _ e2; subst e2; exact h5
theorem prod_bd {k e : Int} (h1 : 1 ≤ k) (h2 : k ≤ 200) (h3 : e ≠ 0) (h4 : -255 ≤ e) (h5 : e ≤ 255) : k * e ≠ 0 ∧ -51000 ≤ k * e ∧ k * e ≤ 51000 := by
  by_cases h : 0 < e
  · have p1 := Int.mul_pos (show 0 < k by omega) h
    have p2 := (mul_bd (k := k) (c := e) (by omega) (by omega) h5).2
    omega
  · have p1 := Int.mul_pos (show 0 < k by omega) (show 0 < -e by omega)
    have p2 := (mul_bd (k := k) (c := -e) (by omega) (by omega) (by omega)).2
    rw [Int.mul_neg] at p1 p2
    omega
/-- The last two bytes of an encoding, and its check sum. -/
theorem enc_sum {l : List Wag} : (enc l).getD ((enc l).length - 2) 0 * 256 + (enc l).getD ((enc l).length - 1) 0 = sumW (enc l) ((enc l).length - 2) % 65521 := by
  have hc := chk_bd' (encB l)
  have hl : (enc l).length = (encB l).length + 2 := by unfold enc pair; rw [List.length_append]; rfl
  have e1 : (enc l).getD (encB l).length 0 = chk (encB l) / 256 := by
    unfold enc pair
    rw [List.getD_eq_getElem?_getD, List.getElem?_append_right (Nat.le_refl _), Nat.sub_self]; rfl
  have e2 : (enc l).getD ((encB l).length + 1) 0 = chk (encB l) % 256 := by
    unfold enc pair
    rw [List.getD_eq_getElem?_getD, List.getElem?_append_right (by omega), show (encB l).length + 1 - (encB l).length = 1 by omega]; rfl
  rw [hl, show (encB l).length + 2 - 2 = (encB l).length by omega, show (encB l).length + 2 - 1 = (encB l).length + 1 by omega, e1, e2]
  have e3 : (enc l).take (encB l).length = encB l := by unfold enc; exact List.take_left
  have e4 := chk_take (bs := enc l) (n := (encB l).length) (by omega)
  rw [e3] at e4
  omega
/-- A byte that is turned: the last two bytes are no longer the check sum. -/
theorem one_turned {l : List Wag} {L i : Nat} {y : Int} (hL : L = (enc l).length) (h3 : 3 ≤ L) (h165 : L ≤ 165) (hi : i < L) (hz : 0 ≤ (enc l).getD i 0 ∧ (enc l).getD i 0 ≤ 255) (hy : 0 ≤ y ∧ y ≤ 255) (hne : y ≠ (enc l).getD i 0) :
    ((enc l).set i y).getD (L - 2) 0 * 256 + ((enc l).set i y).getD (L - 1) 0 ≠ chk (((enc l).set i y).take (L - 2)) := by
  have hs := enc_sum (l := l)
  rw [← hL] at hs
  have hi' : i < (enc l).length := by omega
  rw [chk_take (by rw [List.length_set]; omega), sumW_set _ _ _ _ hi', getD_set _ _ _ _ hi', getD_set _ _ _ _ hi']
  by_cases h1 : i < L - 2
  · rw [if_pos h1, if_neg (by omega), if_neg (by omega), hs]
    obtain ⟨p1, p2, p3⟩ := prod_bd (k := (i : Int) + 1) (e := y - (enc l).getD i 0) (by omega) (by omega) (by omega) (by omega) (by omega)
    generalize ((i : Int) + 1) * (y - (enc l).getD i 0) = P at *
    omega
  · rw [if_neg h1]
    by_cases h2 : i = L - 2
    · subst h2
      rw [if_pos rfl, if_neg (by omega)]
      omega
    · have h4 : i = L - 1 := by omega
      subst h4
      rw [if_neg (by omega), if_pos rfl]
      omega
end Go.Proofs.Ytjgeolfjhfdbmaa
