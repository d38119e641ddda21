/-
  Stage 13: the program's isChain and Bound.
-/
import Derived.Test.YtkopbnppjhdbgaaYChain
set_option linter.unusedSimpArgs false
set_option linter.unusedVariables false
namespace Go.Proofs.Ytkopbnppjhdbgaa
open Go.RowKit Go.Lib

/-- Each element is an index of the job, and comes before the next one. -/
def chB (l : List It) : Option Nat → List Int → Bool
  | _, [] => true
  | p, x :: c => if 0 ≤ x ∧ x < (l.length : Int) then (if ((match p with | none => 1 | some q => rel l q x.toNat) : Int) = 0 then false else chB l (some x.toNat) c) else false
theorem chB_bad {l : List It} {p : Option Nat} {x : Int} {c : List Int} (h : ¬ (0 ≤ x ∧ x < (l.length : Int))) : chB l p (x :: c) = false := by
  unfold chB; rw [if_neg h]
theorem chB_none {l : List It} {x : Nat} {c : List Int} (h : x < l.length) : chB l none ((x : Int) :: c) = chB l (some x) c := by
  show (if 0 ≤ (x : Int) ∧ (x : Int) < (l.length : Int) then (if (1 : Int) = 0 then false else chB l (some ((x : Int)).toNat) c) else false) = _
  rw [if_pos (by omega), if_neg (by omega)]; rfl
theorem chB_some {l : List It} {q x : Nat} {c : List Int} (h : x < l.length) : chB l (some q) ((x : Int) :: c) = if rel l q x = 0 then false else chB l (some x) c := by
  show (if 0 ≤ (x : Int) ∧ (x : Int) < (l.length : Int) then (if rel l q ((x : Int)).toNat = 0 then false else chB l (some ((x : Int)).toNat) c) else false) = _
  rw [if_pos (by omega)]; rfl
theorem chB_iff {l : List It} : ∀ {c : List Int} {p : Option Nat}, chB l p c = true ↔ ∃ d, c = toZ d ∧ chn l p d := by
  intro c
  induction c with
  | nil =>
    intro p
    refine ⟨fun _ => ⟨[], rfl, by cases p <;> trivial⟩, fun _ => by cases p <;> rfl⟩
  | cons x c ih =>
    intro p
    by_cases hx : 0 ≤ x ∧ x < (l.length : Int)
    · obtain ⟨X, rfl⟩ := Int.eq_ofNat_of_zero_le hx.1
      have hX : X < l.length := by omega
      cases p with
      | none =>
        rw [chB_none hX, ih]
        constructor
        · rintro ⟨d, rfl, h⟩; exact ⟨X :: d, rfl, hX, fun x e => (by cases e), h⟩
        · rintro ⟨d, e, h⟩
          cases d with
          | nil => cases e
          | cons y d =>
            have e1 : (X : Int) = (y : Int) := by injection e
            have e2 : c = toZ d := by injection e
            obtain rfl : X = y := by omega
            exact ⟨d, e2, h.2.2⟩
      | some q =>
        rw [chB_some hX]
        by_cases hr : rel l q X = 0
        · rw [if_pos hr]
          refine ⟨fun h => (by cases h), ?_⟩
          rintro ⟨d, e, h⟩
          cases d with
          | nil => cases e
          | cons y d =>
            have e1 : (X : Int) = (y : Int) := by injection e
            obtain rfl : X = y := by omega
            exact absurd hr (h.2.1 q rfl)
        · rw [if_neg hr, ih]
          constructor
          · rintro ⟨d, rfl, h⟩; exact ⟨X :: d, rfl, hX, fun x e => (by injection e with e; subst e; exact hr), h⟩
          · rintro ⟨d, e, h⟩
            cases d with
            | nil => cases e
            | cons y d =>
              have e1 : (X : Int) = (y : Int) := by injection e
              have e2 : c = toZ d := by injection e
              obtain rfl : X = y := by omega
              exact ⟨d, e2, h.2.2⟩
    · rw [chB_bad hx]
      refine ⟨fun h => (by cases h), ?_⟩
      rintro ⟨d, e, h⟩
      cases d with
      | nil => cases e
      | cons y d =>
        have e1 : x = (y : Int) := by injection e
        exact absurd ⟨by omega, by have := h.1; omega⟩ hx
/-- What Bound answers. -/
def boundE (l : List It) (wt : Int) (c : List Int) : Int × Int :=
  if validR l wt ≠ 0 then (0, validR l wt) else if chB l none c = true then bnd l wt none 0 (c.map Int.toNat) else (0, 1)
theorem map_toZ (d : List Nat) : (toZ d).map Int.toNat = d := by
  unfold toZ
  rw [List.map_map]
  conv => rhs; rw [← List.map_id d]
  exact List.map_congr_left (fun x _ => by simp)
theorem chn_at {l : List It} : ∀ {d : List Nat} {p : Option Nat}, chn l p d → ∀ k, k < d.length → d.getD k 0 < l.length ∧ (0 < k → rel l (d.getD (k - 1) 0) (d.getD k 0) ≠ 0) := by
  intro d
  induction d with
  | nil => intro p _ k hk; cases hk
  | cons y d ih =>
    intro p h k hk
    cases k with
    | zero => exact ⟨h.1, fun g => absurd g (Nat.lt_irrefl _)⟩
    | succ k =>
      obtain ⟨i1, i2⟩ := ih h.2.2 k (by simp at hk; omega)
      refine ⟨i1, fun _ => ?_⟩
      cases k with
      | zero =>
        cases d with
        | nil => simp at hk
        | cons z d => exact h.2.2.2.1 y rfl
      | succ k => exact i2 (by omega)
/-- The element ahead of number k. -/
def prv (d : List Nat) : Nat → Option Nat
  | 0 => none
  | k + 1 => some (d.getD k 0)
theorem drop_N {d : List Nat} {k : Nat} (hk : k < d.length) : d.drop k = d.getD k 0 :: d.drop (k + 1) := by
  rw [List.drop_eq_getElem_cons hk, List.getD_eq_getElem?_getD, List.getElem?_eq_getElem hk]; rfl
theorem drop_I {d : List Int} {k : Nat} (hk : k < d.length) : d.drop k = d.getD k 0 :: d.drop (k + 1) := by
  rw [List.drop_eq_getElem_cons hk, List.getD_eq_getElem?_getD, List.getElem?_eq_getElem hk]; rfl
/-- A step of the bound. -/
theorem bnd_step {l : List It} {wt : Int} {d : List Nat} {k : Nat} {m : Int} (hk : k < d.length) (h0 : k = 0 → m = 0) {m' : Int} (hm : m' = if k = 0 then 0 else vk (rel l (d.getD (k - 1) 0) (d.getD k 0)) m) (hr : 0 < k → rel l (d.getD (k - 1) 0) (d.getD k 0) ≠ 0) :
    bnd l wt (prv d k) m (d.drop k) = if (nextZ m' (rnd l (d.getD k 0)) wt).2 = 0 then bnd l wt (prv d (k + 1)) (nextZ m' (rnd l (d.getD k 0)) wt).1 (d.drop (k + 1)) else (0, (nextZ m' (rnd l (d.getD k 0)) wt).2) := by
  rw [drop_N hk]
  cases k with
  | zero =>
    rw [if_pos rfl] at hm
    subst hm
    rw [h0 rfl]
    exact bnd_one l wt 0 _ _
  | succ k =>
    have e : m' = if rel l (d.getD k 0) (d.getD (k + 1) 0) = 2 then m + 1 else m := by
      rw [hm, if_neg (by omega)]
      have := hr (by omega)
      show vk (rel l (d.getD k 0) (d.getD (k + 1) 0)) m = _
      unfold vk
      by_cases g : rel l (d.getD k 0) (d.getD (k + 1) 0) = 2
      · rw [if_pos g, if_pos g]
      · rw [if_neg g, if_neg g, if_pos (by rcases rel_cases l (d.getD k 0) (d.getD (k + 1) 0) with c | c | c; exact absurd c this; exact c; exact absurd c g)]
    rw [e]
    exact bnd_two l wt _ m _ _
end Go.Proofs.Ytkopbnppjhdbgaa
