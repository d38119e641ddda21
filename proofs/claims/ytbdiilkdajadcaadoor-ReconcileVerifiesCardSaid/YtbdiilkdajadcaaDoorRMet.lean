/-
  Stage 8, plain: the cost as a distance; lists with nothing in common.
-/
import Derived.Test.YtbdiilkdajadcaaDoorRMath
set_option linter.unusedSimpArgs false
set_option linter.unusedVariables false
namespace Go.Proofs.YtbdiilkdajadcaaDoor

/-- The same edit, seen from the other side. -/
def sw : Nat → Nat | 0 => 0 | 1 => 1 | 2 => 3 | 3 => 2 | n => n
theorem sw_d {n : Nat} (h : n < 5) : dA (sw n) = dB n ∧ dB (sw n) = dA n ∧ dC (sw n) = dC n := by
  match n, h with
  | 0, _ => decide
  | 1, _ => decide
  | 2, _ => decide
  | 3, _ => decide
  | 4, _ => decide
theorem sw_ok {a b : List Int} {i j n : Nat} (h : okP a b i j n = true) : okP b a j i (sw n) = true := by
  match n, h with
  | 0, h => have h := okP0.1 h; exact okP0.2 ⟨h.2.1, h.1, h.2.2.symm⟩
  | 1, h => have h := okP1.1 h; exact okP1.2 ⟨h.2.1, h.1, fun e => h.2.2 e.symm⟩
  | 2, h => exact okP3.2 (okP2.1 h)
  | 3, h => exact okP2.2 (okP3.1 h)
  | 4, h =>
    obtain ⟨h1, h2, h3, h4, h5⟩ := okP4.1 h
    exact okP4.2 ⟨h2, h1, h4.symm, h3.symm, fun e => h5 (by rw [h3, h4, e])⟩
  | n + 5, h => cases h
theorem cst_sym_le {a b : List Int} : ∀ i j, i ≤ a.length → j ≤ b.length → cst b a j i ≤ cst a b i j := by
  refine down_ind (by rw [cst_end, cst_end]; exact Int.le_refl _) fun i j hi hj g ih => ?_
  obtain ⟨h1, h2, _⟩ := rest_at hi hj g
  have k := okP_in hi hj h1
  have i1 := ih _ h1
  have l := cst_le hj hi (sw_ok h1)
  obtain ⟨e1, e2, e3⟩ := sw_d k.1
  rw [e1, e2, e3] at l
  omega
theorem cst_sym (a b : List Int) : cst a b 0 0 = cst b a 0 0 :=
  Int.le_antisymm (cst_sym_le (a := b) (b := a) 0 0 (Nat.zero_le _) (Nat.zero_le _)) (cst_sym_le 0 0 (Nat.zero_le _) (Nat.zero_le _))
theorem dC_zero {n : Nat} (h5 : n < 5) (h : dC n = 0) : n = 0 := by
  match n, h5 with
  | 0, _ => rfl
  | 1, _ => cases h
  | 2, _ => cases h
  | 3, _ => cases h
  | 4, _ => cases h
theorem cst_self (a : List Int) : ∀ k i, i + k = a.length → cst a a i i = 0 := by
  intro k
  induction k with
  | zero =>
    intro i h
    obtain rfl : i = a.length := by omega
    exact cst_end
  | succ k ih =>
    intro i h
    have l := cst_le (a := a) (b := a) (i := i) (j := i) (n := 0) (by omega) (by omega) (okP0.2 ⟨by omega, by omega, rfl⟩)
    have := ih (i + 1) (by omega)
    have := (cst_bd (a := a) (b := a) i i (by omega) (by omega)).1
    simp only [dA, dB, dC] at l
    omega
theorem path_self (a : List Int) : ∀ k i m, i + k = a.length → k + k ≤ m → (pathF a a m i i).length = k := by
  intro k
  induction k with
  | zero => intro i m h _; rw [pathF_end (by omega) (by omega)]; rfl
  | succ k ih =>
    intro i m h hm
    obtain ⟨m', rfl, e⟩ := pathF_step (a := a) (b := a) (m := m) (i := i) (j := i) (Or.inl (by omega)) (by omega)
    obtain ⟨h1, h2, _⟩ := rest_at (a := a) (b := a) (i := i) (j := i) (by omega) (by omega) (Or.inl (by omega))
    have kk := okP_in (a := a) (b := a) (by omega) (by omega) h1
    have z := cst_self a (k + 1) i h
    have p := (cst_bd (a := a) (b := a) _ _ kk.2.1 kk.2.2.1).1
    have e0 := dC_zero kk.1 (by omega)
    rw [e, e0, List.length_cons]
    show (pathF a a m' (i + 1) (i + 1)).length + 1 = k + 1
    rw [ih (i + 1) m' (by omega) (by omega)]
theorem scr_self (a : List Int) : (scr a a).length = a.length := by
  unfold scr
  rw [List.length_map, path_self a a.length 0 _ (by omega) (Nat.le_refl _)]
theorem drop_getD {l : List Int} {i : Nat} (h : i < l.length) : l.drop i = l.getD i 0 :: l.drop (i + 1) := by
  rw [List.drop_eq_getElem_cons h, List.getD_eq_getElem?_getD, List.getElem?_eq_getElem h]; rfl
theorem cst_zero {a b : List Int} : ∀ i j, i ≤ a.length → j ≤ b.length → cst a b i j = 0 → a.drop i = b.drop j := by
  refine down_ind (fun _ => by rw [List.drop_length, List.drop_length]) fun i j hi hj g ih hz => ?_
  obtain ⟨h1, h2, _⟩ := rest_at hi hj g
  have k := okP_in hi hj h1
  have p := (cst_bd (a := a) (b := b) _ _ k.2.1 k.2.2.1).1
  have e0 := dC_zero k.1 (by omega)
  have i1 := ih _ h1 (by omega)
  rw [e0] at h1 i1
  obtain ⟨h3, h4, h5⟩ := okP0.1 h1
  rw [drop_getD h3, drop_getD h4, h5]
  congr 1
theorem cst_eq (a b : List Int) : cst a b 0 0 = 0 ↔ a = b := by
  constructor
  · intro h
    have := cst_zero 0 0 (Nat.zero_le _) (Nat.zero_le _) h
    simpa using this
  · rintro rfl
    exact cst_self a a.length 0 (by omega)
theorem getD_app {l : List Int} {x : Int} {i : Nat} (h : i < l.length) : (l ++ [x]).getD i 0 = l.getD i 0 := by
  rw [List.getD_eq_getElem?_getD, List.getD_eq_getElem?_getD, List.getElem?_append_left h]
theorem getD_last {l : List Int} {x : Int} : (l ++ [x]).getD l.length 0 = x := by
  rw [List.getD_eq_getElem?_getD, List.getElem?_append_right (Nat.le_refl _)]; simp
theorem okP_app {a b : List Int} {x : Int} {i j n : Nat} (h : okP a b i j n = true) : okP (a ++ [x]) b i j n = true := by
  have hl : (a ++ [x]).length = a.length + 1 := by simp
  match n, h with
  | 0, h => have h := okP0.1 h; exact okP0.2 ⟨by omega, h.2.1, by rw [getD_app h.1]; exact h.2.2⟩
  | 1, h => have h := okP1.1 h; exact okP1.2 ⟨by omega, h.2.1, by rw [getD_app h.1]; exact h.2.2⟩
  | 2, h => have h := okP2.1 h; exact okP2.2 (by omega)
  | 3, h => exact okP3.2 (okP3.1 h)
  | 4, h =>
    obtain ⟨h1, h2, h3, h4, h5⟩ := okP4.1 h
    exact okP4.2 ⟨by omega, h2, by rw [getD_app (by omega)]; exact h3, by rw [getD_app h1]; exact h4, by rw [getD_app (by omega), getD_app h1]; exact h5⟩
  | n + 5, h => cases h
theorem okP_unapp {a b : List Int} {x : Int} {i j n : Nat} (h : okP (a ++ [x]) b i j n = true) (hn : i + dA n ≤ a.length) : okP a b i j n = true := by
  match n, h with
  | 0, h => have h := okP0.1 h; have hn : i + 1 ≤ a.length := hn; exact okP0.2 ⟨by omega, h.2.1, by rw [← getD_app (x := x) (by omega)]; exact h.2.2⟩
  | 1, h => have h := okP1.1 h; have hn : i + 1 ≤ a.length := hn; exact okP1.2 ⟨by omega, h.2.1, by rw [← getD_app (x := x) (by omega)]; exact h.2.2⟩
  | 2, h => have hn : i + 1 ≤ a.length := hn; exact okP2.2 (by omega)
  | 3, h => exact okP3.2 (okP3.1 h)
  | 4, h =>
    have hn : i + 2 ≤ a.length := hn
    obtain ⟨h1, h2, h3, h4, h5⟩ := okP4.1 h
    rw [getD_app (by omega)] at h3
    rw [getD_app (by omega)] at h4
    rw [getD_app (by omega), getD_app (by omega)] at h5
    exact okP4.2 ⟨by omega, h2, h3, h4, h5⟩
  | n + 5, h => cases h
theorem app_le {a b : List Int} {x : Int} : ∀ i j, i ≤ a.length → j ≤ b.length → cst (a ++ [x]) b i j ≤ cst a b i j + 4 := by
  have hl : (a ++ [x]).length = a.length + 1 := by simp
  refine down_ind ?_ fun i j hi hj g ih => ?_
  · have l := cst_le (a := a ++ [x]) (b := b) (i := a.length) (j := b.length) (n := 2) (by omega) (Nat.le_refl _) (okP2.2 (by omega))
    have e : cst (a ++ [x]) b (a.length + 1) b.length = 0 := by rw [← hl]; exact cst_end
    simp only [dA, dB, dC] at l
    simp only [Nat.add_zero] at l
    rw [e] at l
    rw [cst_end]
    omega
  · obtain ⟨h1, h2, _⟩ := rest_at hi hj g
    have i1 := ih _ h1
    have l := cst_le (a := a ++ [x]) (by omega) hj (okP_app (x := x) h1)
    omega
theorem le_app {a b : List Int} {x : Int} : ∀ i j, i ≤ (a ++ [x]).length → j ≤ b.length → (i ≤ a.length → cst a b i j ≤ cst (a ++ [x]) b i j + 4) ∧ (i = a.length + 1 → cst a b a.length j ≤ cst (a ++ [x]) b i j) := by
  have hl : (a ++ [x]).length = a.length + 1 := by simp
  refine down_ind ?_ fun i j hi hj g ih => ?_
  · refine ⟨fun h => by omega, fun _ => ?_⟩
    rw [cst_end, cst_end]; omega
  · obtain ⟨h1, h2, _⟩ := rest_at hi hj g
    have k := okP_in hi hj h1
    have i1 := ih _ h1
    generalize fst (a ++ [x]) b i j = n at *
    have ins : j < b.length → ∀ y, y ≤ a.length → cst a b y j ≤ 4 + cst a b y (j + 1) := fun h y hy => by
      have := cst_le (a := a) (b := b) (i := y) (j := j) (n := 3) hy hj (okP3.2 h)
      simpa only [dA, dB, dC, Nat.add_zero] using this
    constructor
    · intro hia
      by_cases hn : i + dA n ≤ a.length
      · have ok := okP_unapp h1 hn
        have l := cst_le hia hj ok
        have := i1.1 hn
        omega
      · have e : i + dA n = a.length + 1 := by omega
        have q := i1.2 e
        match n, h1, h2, e, q, k with
        | 0, h1, h2, e, q, _ =>
          have h := okP0.1 h1
          simp only [dA, dB, dC] at h2 e q
          obtain rfl : i = a.length := by omega
          have := ins h.2.1 _ (Nat.le_refl _)
          omega
        | 1, h1, h2, e, q, _ =>
          have h := okP1.1 h1
          simp only [dA, dB, dC] at h2 e q
          obtain rfl : i = a.length := by omega
          have := ins h.2.1 _ (Nat.le_refl _)
          omega
        | 2, h1, h2, e, q, _ =>
          simp only [dA, dB, dC] at h2 e q
          obtain rfl : i = a.length := by omega
          simp only [Nat.add_zero] at q h2
          omega
        | 3, h1, h2, e, q, _ =>
          simp only [dA, dB, dC] at e
          omega
        | 4, h1, h2, e, q, _ =>
          obtain ⟨g1, g2, g3, g4, g5⟩ := okP4.1 h1
          simp only [dA, dB, dC] at h2 e q
          have hi1 : i + 1 = a.length := by omega
          rw [getD_app (by omega)] at g3
          have := ins (by omega) i hia
          have l := cst_le (a := a) (b := b) (i := i) (j := j + 1) (n := 0) hia (by omega) (okP0.2 ⟨by omega, g2, g3⟩)
          simp only [dA, dB, dC] at l
          rw [hi1] at l
          have e2 : j + 1 + 1 = j + 2 := rfl
          rw [e2] at l
          omega
        | n + 5, _, _, _, _, k => omega
    · intro hia
      match n, h1, h2, k, i1 with
      | 0, h1, _, _, _ => have := okP0.1 h1; omega
      | 1, h1, _, _, _ => have := okP1.1 h1; omega
      | 2, h1, _, _, _ => have := okP2.1 h1; omega
      | 3, h1, h2, _, i1 =>
        simp only [dA, dB, dC, Nat.add_zero] at h2 i1
        have := ins (okP3.1 h1) _ (Nat.le_refl _)
        have := i1.2 (by omega)
        omega
      | 4, h1, _, _, _ => have := okP4.1 h1; omega
      | n + 5, _, _, k, _ => omega
theorem app_near (a b : List Int) (x : Int) : cst (a ++ [x]) b 0 0 ≤ cst a b 0 0 + 4 ∧ cst a b 0 0 ≤ cst (a ++ [x]) b 0 0 + 4 :=
  ⟨app_le 0 0 (Nat.zero_le _) (Nat.zero_le _), (le_app 0 0 (Nat.zero_le _) (Nat.zero_le _)).1 (Nat.zero_le _)⟩
end Go.Proofs.YtbdiilkdajadcaaDoor
