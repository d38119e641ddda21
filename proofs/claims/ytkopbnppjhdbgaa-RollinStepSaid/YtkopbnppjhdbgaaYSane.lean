/-
  Stage 13: the examples of the chapter.
-/
import Derived.Test.YtkopbnppjhdbgaaYLeast
import Derived.Test.YtkopbnppjhdbgaaYBnd
set_option linter.unusedSimpArgs false
set_option linter.unusedVariables false
namespace Go.Proofs.Ytkopbnppjhdbgaa
open Go.RowKit Go.Lib

theorem all4 {P : Nat → Prop} (h0 : P 0) (h1 : P 1) (h2 : P 2) (h3 : P 3) : ∀ y, y < 4 → P y := fun y hy => by
  match y, hy with
  | 0, _ => exact h0
  | 1, _ => exact h1
  | 2, _ => exact h2
  | 3, _ => exact h3
theorem max4 (f : Nat → Int) (M : Int) (h0 : 0 ≤ M) (h1 : f 0 ≤ M ∧ f 1 ≤ M ∧ f 2 ≤ M ∧ f 3 ≤ M) (h2 : M = 0 ∨ f 0 = M ∨ f 1 = M ∨ f 2 = M ∨ f 3 = M) : IsMaxP (fun x => x < itm4.length) f M := by
  refine ⟨h0, fun x hx => all4 (P := fun x => f x ≤ M) h1.1 h1.2.1 h1.2.2.1 h1.2.2.2 x hx, ?_⟩
  rcases h2 with h | h | h | h | h
  · exact Or.inl h
  · exact Or.inr ⟨0, by decide, h⟩
  · exact Or.inr ⟨1, by decide, h⟩
  · exact Or.inr ⟨2, by decide, h⟩
  · exact Or.inr ⟨3, by decide, h⟩
set_option maxRecDepth 100000 in
theorem next4 : nextZ 0 0 12 = (0, 0) ∧ nextZ 1 0 12 = (1, 0) ∧ nextZ 2 0 12 = (2, 0) ∧ nextZ 1 0 0 = (0, 15) ∧ nextZ 0 3 0 = (7, 0) := by decide +kernel
theorem itm4_sol : Sol itm4 12 [1, 2, 0, 1] [1, 2, 0, 1] := by
  refine ⟨rfl, rfl, fun _ h => h, fun x y _ hx _ => hx, ?_, ?_, fun y hy => ?_⟩
  · exact all4 (P := fun y => IsMaxP (fun x => x < itm4.length) (fun x => via itm4 [1, 2, 0, 1] x y) (List.getD [1, 2, 0, 1] y 0)) (max4 _ _ (by decide) (by decide) (by decide)) (max4 _ _ (by decide) (by decide) (by decide)) (max4 _ _ (by decide) (by decide) (by decide)) (max4 _ _ (by decide) (by decide) (by decide))
  · exact all4 (P := fun y => nextZ (List.getD [1, 2, 0, 1] y 0) (rnd itm4 y) 12 = (List.getD [1, 2, 0, 1] y 0, 0)) next4.2.1 next4.2.2.1 next4.1 next4.2.1
  · have h4 : 4 ≤ y := Nat.not_lt.1 hy
    have e : List.getD ([1, 2, 0, 1] : List Int) y 0 = 0 := by rw [List.getD_eq_getElem?_getD, List.getElem?_eq_none (by simpa using h4)]; rfl
    exact ⟨e, e⟩
theorem itm4_v0 : validR itm4 0 = 0 := by decide
theorem itm4_no : ∀ bs v, ¬ Sol itm4 0 bs v := fun bs v h => by
  have hf := formOk_of itm4_v0
  have hb := h.bound hf
  have h2 := (h.base 0 (by decide)).le 2 (by decide)
  have e : via itm4 v 2 0 = v.getD 2 0 + 1 := rfl
  have h3 : 1 ≤ bs.getD 0 0 := by
    have h4 : via itm4 v 2 0 ≤ bs.getD 0 0 := h2
    have := (hb 2).1
    omega
  obtain ⟨j, hj, _⟩ := next_mono (a := 1) (by omega) h3 (hf.rb 0 (by decide)) hf.wb (h.code 0 (by decide))
  have h5 : nextZ 1 0 0 = (j, 0) := hj
  rw [next4.2.2.2.1] at h5
  injection h5 with _ h5
  omega
abbrev itm1 : List It := [(0, 0, 3, 80)]
theorem itm1_v : validR itm1 0 = 0 := by decide
theorem itm1_sol : Sol itm1 0 [0] [7] := by
  have e1 : ∀ y, y < itm1.length → y = 0 := fun y hy => by have : y < 1 := hy; omega
  refine ⟨rfl, rfl, fun _ h => h, fun x y _ hx _ => hx, fun y hy => ?_, fun y hy => ?_, fun y hy => ?_⟩
  · obtain rfl := e1 y hy
    exact ⟨by decide, fun x hx => by obtain rfl := e1 x hx
                                     decide, Or.inl rfl⟩
  · obtain rfl := e1 y hy
    exact next4.2.2.2.2
  · have h4 : 1 ≤ y := Nat.not_lt.1 hy
    refine ⟨?_, ?_⟩
    · rw [List.getD_eq_getElem?_getD, List.getElem?_eq_none (by simpa using h4)]; rfl
    · rw [List.getD_eq_getElem?_getD, List.getElem?_eq_none (by simpa using h4)]; rfl
theorem itm4_steps : StepsOf [1, 2, 0, 1] 2 := Or.inr ⟨2, ⟨all4 (P := fun x => List.getD ([1, 2, 0, 1] : List Int) x 0 ≤ 2) (by decide) (by decide) (by decide) (by decide), 1, by decide, rfl⟩, by decide⟩
theorem itm1_top : TopV [7] 1 7 := ⟨fun x hx => by
  obtain rfl : x = 0 := by omega
  decide, 0, by decide, rfl⟩
theorem itm1_steps : StepsOf [7] 3 := Or.inr ⟨7, itm1_top, by decide⟩
theorem itm4_least : LeastR itm4 12 2 [1, 2, 0, 1] 0 := Or.inr (Or.inr ⟨itm4_valid, rfl, ⟨_, itm4_sol⟩, itm4_steps⟩)
theorem itm4_least0 : LeastR itm4 0 0 [] 15 := Or.inr (Or.inl ⟨itm4_v0, rfl, rfl, rfl, itm4_no⟩)
theorem itm1_least : LeastR itm1 0 3 [7] 0 := Or.inr (Or.inr ⟨itm1_v, rfl, ⟨_, itm1_sol⟩, itm1_steps⟩)
set_option maxRecDepth 100000 in
theorem itm4_bound : boundE itm4 12 [2, 0, 3, 1] = (2, 0) := by decide +kernel
theorem itm4_backB : IsBackB itm4 [1, 2, 0, 1] [1, 2, 0, 1] 1 [2, 0, 3, 1] :=
  .step 1 3 [2, 0, 3] (by decide) (by decide) (by decide) (by decide)
    (.step 3 0 [2, 0] (by decide) (by decide) (by decide) (by decide)
      (.step 0 2 [2] (by decide) (by decide) (by decide) (by decide)
        (.one 2 (by decide))))
theorem itm4_wit : WitR itm4 12 [2, 0, 3, 1] 0 := Or.inr (Or.inr ⟨itm4_valid, rfl, _, _, itm4_sol, Or.inr ⟨1, [2, 0, 3, 1], ⟨by decide, by decide, by decide⟩, itm4_backB, rfl⟩⟩)
/-- What four leaves. -/
def Four13 (wt : Int) (w : World) (e : Ending) (w' : World) : Prop := ∃ A, e = .returned (jv A 4 4 wt) ∧ IRow w' A itm4 ∧ Below w.heap.size w w'
end Go.Proofs.Ytkopbnppjhdbgaa
