/-
  Stage 7, plain: distances of made wagons; the times of a train that rolls at a constant speed; two lists that grow.
-/
import Derived.Test.YtgiodpepjajlmaaWMea
import Derived.Test.YtgiodpepjajlmaaWDist
import Derived.Test.YtgiodpepjajlmaaCMkL
set_option linter.unusedSimpArgs false
set_option linter.unusedVariables false
namespace Go.Proofs.Ytgiodpepjajlmaa
open Go.RowKit

theorem made_at {l : List Wag} (h : ∀ x ∈ l, validW x = 0) : ∀ j, j < l.length → validW (wgAt l j) = 0 := fun j hj => h _ (List.mem_of_getElem? (wgAt_drop hj).1)
/-- The distances of valid wagons. -/
structure Dst (l : List Wag) (d : List Int) : Prop where
  eq : distR l = (d, 0)
  bd : ∀ j, j < d.length → 1 ≤ d.getD j 0 ∧ d.getD j 0 ≤ 8000
  len : d.length ≤ 6 * l.length
theorem dst_of {l : List Wag} (hl : l.length ≤ 96) (h : ∀ x ∈ l, validW x = 0) : Dst l (dfs (plK l l.length)) := by
  have P := placed (made_at h) l.length (Nat.le_refl _)
  refine ⟨distR_ok (by omega) (errK_zero.2 h), fun j hj => ?_, ?_⟩
  · rw [dfs_len] at hj
    have := P.up j (by omega)
    unfold dfs
    rw [dfK_at _ _ _ (by omega)]
    omega
  · rw [dfs_len]
    have := P.len
    omega
def atK (d : List Int) (s : Int) : Nat → Int
  | 0 => 1000
  | k + 1 => atK d s k + d.getD k 0 * s
def xK (d : List Int) (s a : Int) : Nat → List Int
  | 0 => [1000 + a]
  | k + 1 => xK d s a k ++ [atK d s (k + 1) + a]
theorem xK_len (d : List Int) (s a : Int) (k : Nat) : (xK d s a k).length = k + 1 := by
  induction k with
  | zero => rfl
  | succ k ih => show (xK d s a k ++ _).length = _; rw [List.length_append, ih]; rfl
theorem xK_at (d : List Int) (s a : Int) (k j : Nat) (h : j ≤ k) : (xK d s a k).getD j 0 = atK d s j + a := by
  induction k with
  | zero => obtain rfl : j = 0 := by omega
            rfl
  | succ k ih =>
    show (xK d s a k ++ [_]).getD j 0 = _
    by_cases e : j = k + 1
    · subst e
      rw [getD_app_right (by rw [xK_len]; omega), xK_len, Nat.sub_self]; rfl
    · rw [getD_app_left (by rw [xK_len]; omega)]
      exact ih (by omega)
theorem atK_bd {d : List Int} {s : Int} (hd : ∀ j, j < d.length → 1 ≤ d.getD j 0 ∧ d.getD j 0 ≤ 8000) (s1 : 1 ≤ s) (s2 : s ≤ 20) (k : Nat) (hk : k ≤ d.length) : 1000 ≤ atK d s k ∧ atK d s k ≤ 1000 + 160000 * (k : Int) := by
  induction k with
  | zero => exact ⟨Int.le_refl _, by show (1000 : Int) ≤ _; omega⟩
  | succ k ih =>
    have := ih (by omega)
    obtain ⟨h1, h2⟩ := hd k (by omega)
    have m1 : 0 ≤ d.getD k 0 * s := Int.mul_nonneg (by omega) (by omega)
    have m2 : d.getD k 0 * s ≤ 8000 * 20 := Int.mul_le_mul h2 s2 (by omega) (by omega)
    show 1000 ≤ atK d s k + _ ∧ atK d s k + _ ≤ _
    omega
theorem meK_same (f s : List Int) (b : Int) (d : List Int) (n : Nat) (h : ∀ j, j < n → (f.getD (j + 1) 0 - f.getD j 0) * b / (s.getD j 0 - f.getD j 0) = d.getD j 0) (hn : n ≤ d.length) : meK f s b n = d.take n := by
  induction n with
  | zero => rfl
  | succ n ih =>
    show meK f s b n ++ [_] = _
    rw [ih (fun j hj => h j (by omega)) (by omega), h n (by omega), take_snocI _ _ (by omega)]
theorem roll {d : List Int} {s : Int} (hd : ∀ j, j < d.length → 1 ≤ d.getD j 0 ∧ d.getD j 0 ≤ 8000) (hl : d.length ≤ 600) (s1 : 1 ≤ s) (s2 : s ≤ 20) : meaR (xK d s 0 d.length) (xK d s (100 * s) d.length) 100 = (d, 0) := by
  have step : ∀ j, j < d.length → atK d s (j + 1) = atK d s j + d.getD j 0 * s := fun j _ => rfl
  have ht : timesR (xK d s 0 d.length) (xK d s (100 * s) d.length) = true := by
    unfold timesR
    rw [decide_eq_true (by rw [xK_len, xK_len]), Bool.true_and]
    refine okT_all fun k hk => ?_
    rw [xK_len] at hk
    have b := atK_bd hd s1 s2 k (by omega)
    refine ⟨?_, ?_, ?_⟩
    · cases k with
      | zero => rw [xK_at _ _ _ _ _ (by omega)]; show (-1 : Int) < _; omega
      | succ k =>
        show (xK d s 0 d.length).getD k 0 < _
        rw [xK_at _ _ _ _ _ (by omega), xK_at _ _ _ _ _ (by omega), step k (by omega)]
        have := Int.mul_pos (show 0 < d.getD k 0 by have := (hd k (by omega)).1; omega) (show 0 < s by omega)
        omega
    · rw [xK_at _ _ _ _ _ (by omega), xK_at _ _ _ _ _ (by omega)]; omega
    · rw [xK_at _ _ _ _ _ (by omega)]; omega
  rw [meaR_ok (by omega) ht (by rw [xK_len]; omega), xK_len, Nat.add_sub_cancel, meK_same _ _ _ d d.length _ (Nat.le_refl _), List.take_length]
  intro j hj
  rw [xK_at _ _ _ _ _ (by omega), xK_at _ _ _ _ _ (by omega), xK_at _ _ _ _ _ (by omega), step j hj]
  have e1 : (atK d s j + d.getD j 0 * s + 0 - (atK d s j + 0)) * 100 = (100 * s) * d.getD j 0 := by
    have : atK d s j + d.getD j 0 * s + 0 - (atK d s j + 0) = d.getD j 0 * s := by omega
    rw [this, Int.mul_comm (d.getD j 0) s, Int.mul_comm (s * d.getD j 0) 100, ← Int.mul_assoc]
  have e2 : atK d s j + 100 * s - (atK d s j + 0) = 100 * s := by omega
  rw [e1, e2]
  exact Int.mul_ediv_cancel_left _ (by omega)

/-- Two lists of the call's own that lie apart. -/
def Apart2 (u v : Value) : Prop := ∀ g, u.ownBlock = some g → v.ownBlock ≠ some g
theorem Apart2.symm {u v : Value} (h : Apart2 u v) : Apart2 v u := fun g hv hu => h g hu hv
/-- An append to one leaves the other. -/
theorem AppI.other {k : IntKind} {T : TypeId} {base base' : Nat} {v v' u : Value} {zs ys : List Int} {y : Int} {W w' : World} (A : AppI base v zs y W v' w') (O : Own k T W base' u ys) (h : Apart2 v u) : Own k T w' base' u ys ∧ Apart2 v' u := by
  obtain ⟨_, hg, g, c, rfl, hlt, hat⟩ := A
  refine ⟨O.kept hg ?_, fun g' hg' => ?_⟩
  · cases hu : u.ownBlock with
    | none => exact Or.inl rfl
    | some b => exact Or.inr (fun e => h b e.symm hu)
  · have e : g = g' := by simpa [Value.ownBlock] using hg'
    subst e
    rcases hat with hat | hat
    · exact h g hat
    · exact fun e => by have := (own_block O e).2; omega
end Go.Proofs.Ytgiodpepjajlmaa
