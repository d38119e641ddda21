/-
  Plain facts on results of intervals: what they contain.
-/
import Derived.Test.YtfpjpilhblhhgaaLoc
import Derived.Test.YtfpjpilhblhhgaaRootsWalk
set_option linter.unusedSimpArgs false
set_option linter.unusedVariables false
namespace Go.Proofs.Ytfpjpilhblhhgaa
open Go.RowKit

theorem cnt_mk {p q n : Int} (h : -1000000000000 ≤ p) (h1 : p ≤ n) (h2 : n ≤ q) (h3 : q ≤ 1000000000000) : cnt p q n = true := by
  unfold cnt
  rw [vld_mk (by omega), Bool.true_and]
  exact decide_eq_true ⟨h1, h2⟩

theorem add_facts (a b c d : Int) (h : vld a b = true) (k : vld c d = true) (h1 : -1000 ≤ a) (h2 : b ≤ 1000) (k1 : -1000 ≤ c) (k2 : d ≤ 1000) : addR a b c d = (a + c, b + d, 0) := by
  have := vld_t h
  have := vld_t k
  unfold addR lim
  rw [two_t h k, if_pos (vld_mk (by omega))]
theorem sub_facts (a b c d : Int) (h : vld a b = true) (k : vld c d = true) (h1 : -1000 ≤ a) (h2 : b ≤ 1000) (k1 : -1000 ≤ c) (k2 : d ≤ 1000) : subR a b c d = (a - d, b - c, 0) := by
  have := vld_t h
  have := vld_t k
  unfold subR lim
  rw [two_t h k, if_pos (vld_mk (by omega))]

theorem mul_small {x y : Int} (h1 : -1000 ≤ x) (h2 : x ≤ 1000) (k1 : -1000 ≤ y) (k2 : y ≤ 1000) : -1000000 ≤ x * y ∧ x * y ≤ 1000000 := by
  have h : (x * y).natAbs ≤ 1000 * 1000 := by rw [Int.natAbs_mul]; exact Nat.mul_le_mul (by omega) (by omega)
  omega

/-- A product lies between those of the ends. -/
theorem mul_mid {a b n m : Int} (h1 : a ≤ n) (h2 : n ≤ b) : (a * m ≤ n * m ∧ n * m ≤ b * m) ∨ (b * m ≤ n * m ∧ n * m ≤ a * m) := by
  rcases Int.le_total 0 m with g | g
  · exact Or.inl ⟨Int.mul_le_mul_of_nonneg_right h1 g, Int.mul_le_mul_of_nonneg_right h2 g⟩
  · exact Or.inr ⟨Int.mul_le_mul_of_nonpos_right h2 g, Int.mul_le_mul_of_nonpos_right h1 g⟩
theorem mul_mid' {c d n m : Int} (h1 : c ≤ m) (h2 : m ≤ d) : (n * c ≤ n * m ∧ n * m ≤ n * d) ∨ (n * d ≤ n * m ∧ n * m ≤ n * c) := by
  have h := mul_mid (m := n) h1 h2
  simpa [Int.mul_comm] using h

theorem mul_facts (a b c d : Int) (h : vld a b = true) (k : vld c d = true) (h1 : -1000 ≤ a) (h2 : b ≤ 1000) (k1 : -1000 ≤ c) (k2 : d ≤ 1000) :
    mulR a b c d = (min4 (a * c) (a * d) (b * c) (b * d), max4 (a * c) (a * d) (b * c) (b * d), 0) ∧ -1000000 ≤ min4 (a * c) (a * d) (b * c) (b * d) ∧ max4 (a * c) (a * d) (b * c) (b * d) ≤ 1000000 := by
  have := vld_t h
  have := vld_t k
  have m1 := mul_small (x := a) (y := c) (by omega) (by omega) (by omega) (by omega)
  have m2 := mul_small (x := a) (y := d) (by omega) (by omega) (by omega) (by omega)
  have m3 := mul_small (x := b) (y := c) (by omega) (by omega) (by omega) (by omega)
  have m4 := mul_small (x := b) (y := d) (by omega) (by omega) (by omega) (by omega)
  have e1 := min4_eq (a * c) (a * d) (b * c) (b * d)
  have e2 := max4_eq (a * c) (a * d) (b * c) (b * d)
  refine ⟨?_, by omega, by omega⟩
  unfold mulR
  rw [if_pos ⟨h, k⟩, if_pos]
  unfold sml4 sml
  simp only [Bool.and_eq_true, decide_eq_true_eq]
  exact ⟨⟨⟨by omega, by omega⟩, by omega⟩, by omega⟩

/-- The product of a number of each lies between the least and the greatest. -/
theorem mul_between (a b c d n m : Int) (h1 : a ≤ n) (h2 : n ≤ b) (k1 : c ≤ m) (k2 : m ≤ d) :
    min4 (a * c) (a * d) (b * c) (b * d) ≤ n * m ∧ n * m ≤ max4 (a * c) (a * d) (b * c) (b * d) := by
  have e1 := min4_eq (a * c) (a * d) (b * c) (b * d)
  have e2 := max4_eq (a * c) (a * d) (b * c) (b * d)
  have g1 := mul_mid (m := m) h1 h2
  have g2 := mul_mid' (n := a) k1 k2
  have g3 := mul_mid' (n := b) k1 k2
  omega

/-- The rounded quotients for a divisor below 0. -/
theorem fdv_neg (a b : Int) (hb : b ≠ 0) : fdv (-a) (-b) = fdv a b := by
  unfold fdv
  rw [Int.neg_tmod, Int.tmod_neg, Int.neg_tdiv, Int.tdiv_neg, Int.neg_neg]
  by_cases g : a.tmod b ≠ 0 ∧ (a.tmod b < 0 ↔ ¬ b < 0)
  · rw [if_pos g, if_pos ⟨by omega, by omega⟩]
  · rw [if_neg g, if_neg (fun k => g ⟨by omega, by omega⟩)]
theorem cdv_neg (a b : Int) (hb : b ≠ 0) : cdv (-a) (-b) = cdv a b := by
  unfold cdv
  rw [Int.neg_tmod, Int.tmod_neg, Int.neg_tdiv, Int.tdiv_neg, Int.neg_neg]
  by_cases g : a.tmod b ≠ 0 ∧ (a.tmod b < 0 ↔ b < 0)
  · rw [if_pos g, if_pos ⟨by omega, by omega⟩]
  · rw [if_neg g, if_neg (fun k => g ⟨by omega, by omega⟩)]

/-- A number of the interval, scaled: the divisors of the law. -/
theorem scale_ends (x y z D : Int) (hD : D = 1 ∨ D = 2 ∨ D = 3 ∨ D = 4 ∨ D = 5 ∨ D = 7) (h1 : x ≤ z) (h2 : z ≤ y) (hx : -1000000 ≤ x) (hy : y ≤ 1000000) :
    -2000000 ≤ fdv x D ∧ fdv x D ≤ fdv z D ∧ fdv z D ≤ cdv z D ∧ cdv z D ≤ cdv y D ∧ cdv y D ≤ 2000000 := by
  have a1 := fdv_spec x D (by omega)
  have a2 := fdv_spec z D (by omega)
  have a3 := cdv_spec z D (by omega)
  have a4 := cdv_spec y D (by omega)
  rcases hD with rfl | rfl | rfl | rfl | rfl | rfl <;> omega

theorem bnd_ok {q : Int} (h : -2000000 ≤ q) (k : q ≤ 2000000) : bnd q = (q, 0) := if_pos ⟨by omega, by omega⟩
theorem flr_ok {x d : Int} (h0 : d ≠ 0) (h : -2000000 ≤ fdv x d) (k : fdv x d ≤ 2000000) : flr x d = (fdv x d, 0) := by unfold flr; rw [if_neg h0, bnd_ok h k]
theorem cil_ok {x d : Int} (h0 : d ≠ 0) (h : -2000000 ≤ cdv x d) (k : cdv x d ≤ 2000000) : cil x d = (cdv x d, 0) := by unfold cil; rw [if_neg h0, bnd_ok h k]
theorem scl_ok {x y d : Int} (h0 : d ≠ 0) (h : -2000000 ≤ fdv x d) (k : fdv x d ≤ 2000000) (h' : -2000000 ≤ cdv y d) (k' : cdv y d ≤ 2000000) : scl x y d = (fdv x d, cdv y d, 0) := by
  unfold scl
  rw [flr_ok h0 h k, cil_ok h0 h' k']
  rfl

/-- What Scale does to an interval of small numbers, by a small divisor above 0 .. -/
theorem scale_pos (a b num D : Int) (h : vld a b = true) (h1 : -1000 ≤ a) (h2 : b ≤ 1000) (n1 : -20 ≤ num) (n2 : num ≤ 20) (hD : D = 1 ∨ D = 2 ∨ D = 3 ∨ D = 4 ∨ D = 5 ∨ D = 7) :
    ∃ p q, scaleR a b num D = (p, q, 0) ∧ -2000000 ≤ p ∧ q ≤ 2000000 ∧ ((p = fdv (a * num) D ∨ p = fdv (b * num) D) ∧ (q = cdv (a * num) D ∨ q = cdv (b * num) D)) ∧ ∀ n, a ≤ n → n ≤ b → p ≤ fdv (n * num) D ∧ fdv (n * num) D ≤ cdv (n * num) D ∧ cdv (n * num) D ≤ q := by
  have hv := vld_t h
  have ma := mul_small (x := a) (y := num) (by omega) (by omega) (by omega) (by omega)
  have mb := mul_small (x := b) (y := num) (by omega) (by omega) (by omega) (by omega)
  have fn : fct num = true := decide_eq_true ⟨by omega, by omega⟩
  have fD : fct D = true := decide_eq_true ⟨by omega, by omega⟩
  have d0 : D ≠ 0 := by omega
  have sD : decide (D < 0) = false := decide_eq_false (by omega)
  unfold scaleR
  rw [if_neg (by simp [h]), if_neg (by simp [fn, fD]), if_neg d0, sD]
  rcases Int.lt_or_le num 0 with g | g
  · have sn : decide (num < 0) = true := decide_eq_true g
    rw [sn, if_neg (by simp)]
    have hm : ∀ n, a ≤ n → n ≤ b → b * num ≤ n * num ∧ n * num ≤ a * num := fun n u v => ⟨Int.mul_le_mul_of_nonpos_right v (by omega), Int.mul_le_mul_of_nonpos_right u (by omega)⟩
    have e := hm a (by omega) (by omega)
    have s1 := scale_ends (b * num) (a * num) (b * num) D hD (by omega) (by omega) (by omega) (by omega)
    refine ⟨_, _, scl_ok d0 (by omega) (by omega) (by omega) (by omega), by omega, by omega, ⟨by simp, by simp⟩, fun n u v => ?_⟩
    have e2 := hm n u v
    have s2 := scale_ends (b * num) (a * num) (n * num) D hD e2.1 e2.2 (by omega) (by omega)
    omega
  · have sn : decide (num < 0) = false := decide_eq_false (by omega)
    rw [sn, if_pos rfl]
    have hm : ∀ n, a ≤ n → n ≤ b → a * num ≤ n * num ∧ n * num ≤ b * num := fun n u v => ⟨Int.mul_le_mul_of_nonneg_right u g, Int.mul_le_mul_of_nonneg_right v g⟩
    have e := hm a (by omega) (by omega)
    have s1 := scale_ends (a * num) (b * num) (a * num) D hD (by omega) (by omega) (by omega) (by omega)
    refine ⟨_, _, scl_ok d0 (by omega) (by omega) (by omega) (by omega), by omega, by omega, ⟨by simp, by simp⟩, fun n u v => ?_⟩
    have e2 := hm n u v
    have s2 := scale_ends (a * num) (b * num) (n * num) D hD e2.1 e2.2 (by omega) (by omega)
    omega

/-- .. and below 0. -/
theorem scale_neg (a b num D : Int) (h : vld a b = true) (h1 : -1000 ≤ a) (h2 : b ≤ 1000) (n1 : -20 ≤ num) (n2 : num ≤ 20) (hD : D = 1 ∨ D = 2 ∨ D = 3 ∨ D = 4 ∨ D = 5 ∨ D = 7) :
    ∃ p q, scaleR a b num (-D) = (p, q, 0) ∧ -2000000 ≤ p ∧ q ≤ 2000000 ∧ ((p = fdv (a * num) (-D) ∨ p = fdv (b * num) (-D)) ∧ (q = cdv (a * num) (-D) ∨ q = cdv (b * num) (-D))) ∧ ∀ n, a ≤ n → n ≤ b → p ≤ fdv (n * num) (-D) ∧ fdv (n * num) (-D) ≤ cdv (n * num) (-D) ∧ cdv (n * num) (-D) ≤ q := by
  have hv := vld_t h
  have ma := mul_small (x := a) (y := num) (by omega) (by omega) (by omega) (by omega)
  have mb := mul_small (x := b) (y := num) (by omega) (by omega) (by omega) (by omega)
  have fn : fct num = true := decide_eq_true ⟨by omega, by omega⟩
  have fD : fct (-D) = true := decide_eq_true ⟨by omega, by omega⟩
  have d0 : -D ≠ 0 := by omega
  have sD : decide (-D < 0) = true := decide_eq_true (by omega)
  have eF : ∀ z, fdv z (-D) = fdv (-z) D := fun z => by have := fdv_neg (-z) D (by omega); rwa [Int.neg_neg] at this
  have eC : ∀ z, cdv z (-D) = cdv (-z) D := fun z => by have := cdv_neg (-z) D (by omega); rwa [Int.neg_neg] at this
  unfold scaleR
  rw [if_neg (by simp [h]), if_neg (by simp [fn, fD]), if_neg d0, sD]
  rcases Int.lt_or_le num 0 with g | g
  · have sn : decide (num < 0) = true := decide_eq_true g
    rw [sn, if_pos rfl]
    have hm : ∀ n, a ≤ n → n ≤ b → b * num ≤ n * num ∧ n * num ≤ a * num := fun n u v => ⟨Int.mul_le_mul_of_nonpos_right v (by omega), Int.mul_le_mul_of_nonpos_right u (by omega)⟩
    have e := hm a (by omega) (by omega)
    have s1 := scale_ends (-(a * num)) (-(b * num)) (-(a * num)) D hD (by omega) (by omega) (by omega) (by omega)
    refine ⟨_, _, scl_ok d0 (by rw [eF]; omega) (by rw [eF]; omega) (by rw [eC]; omega) (by rw [eC]; omega), by rw [eF]; omega, by rw [eC]; omega, ⟨by simp, by simp⟩, fun n u v => ?_⟩
    have e2 := hm n u v
    have s2 := scale_ends (-(a * num)) (-(b * num)) (-(n * num)) D hD (by omega) (by omega) (by omega) (by omega)
    rw [eF, eF, eC, eC]
    omega
  · have sn : decide (num < 0) = false := decide_eq_false (by omega)
    rw [sn, if_neg (by simp)]
    have hm : ∀ n, a ≤ n → n ≤ b → a * num ≤ n * num ∧ n * num ≤ b * num := fun n u v => ⟨Int.mul_le_mul_of_nonneg_right u g, Int.mul_le_mul_of_nonneg_right v g⟩
    have e := hm a (by omega) (by omega)
    have s1 := scale_ends (-(b * num)) (-(a * num)) (-(b * num)) D hD (by omega) (by omega) (by omega) (by omega)
    refine ⟨_, _, scl_ok d0 (by rw [eF]; omega) (by rw [eF]; omega) (by rw [eC]; omega) (by rw [eC]; omega), by rw [eF]; omega, by rw [eC]; omega, ⟨by simp, by simp⟩, fun n u v => ?_⟩
    have e2 := hm n u v
    have s2 := scale_ends (-(b * num)) (-(a * num)) (-(n * num)) D hD (by omega) (by omega) (by omega) (by omega)
    rw [eF, eF, eC, eC]
    omega

theorem scale_facts2 (a b num den : Int) (h : vld a b = true) (h1 : -1000 ≤ a) (h2 : b ≤ 1000) (n1 : -20 ≤ num) (n2 : num ≤ 20) (hd : den = 1 ∨ den = 2 ∨ den = 3 ∨ den = 5 ∨ den = 7 ∨ den = -3 ∨ den = -4) :
    ∃ p q, scaleR a b num den = (p, q, 0) ∧ -2000000 ≤ p ∧ q ≤ 2000000 ∧ ((p = fdv (a * num) den ∨ p = fdv (b * num) den) ∧ (q = cdv (a * num) den ∨ q = cdv (b * num) den)) ∧ ∀ n, a ≤ n → n ≤ b → p ≤ fdv (n * num) den ∧ fdv (n * num) den ≤ cdv (n * num) den ∧ cdv (n * num) den ≤ q := by
  rcases Int.lt_or_le den 0 with g | g
  · have := scale_neg a b num (-den) h h1 h2 n1 n2 (by omega)
    rwa [Int.neg_neg] at this
  · exact scale_pos a b num den h h1 h2 n1 n2 (by omega)

theorem scale_facts (a b num den : Int) (h : vld a b = true) (h1 : -1000 ≤ a) (h2 : b ≤ 1000) (n1 : -20 ≤ num) (n2 : num ≤ 20) (hd : den = 1 ∨ den = 2 ∨ den = 3 ∨ den = 5 ∨ den = 7 ∨ den = -3 ∨ den = -4) :
    ∃ p q, scaleR a b num den = (p, q, 0) ∧ -2000000 ≤ p ∧ q ≤ 2000000 ∧ ∀ n, a ≤ n → n ≤ b → p ≤ fdv (n * num) den ∧ fdv (n * num) den ≤ cdv (n * num) den ∧ cdv (n * num) den ≤ q :=
  let ⟨p, q, e, g1, g2, _, g3⟩ := scale_facts2 a b num den h h1 h2 n1 n2 hd
  ⟨p, q, e, g1, g2, g3⟩

theorem wth_mk {a b c d : Int} (h0 : -1000000000000 ≤ c) (h1 : c ≤ a) (h2 : a ≤ b) (h3 : b ≤ d) (h4 : d ≤ 1000000000000) : wth a b c d = true := by
  unfold wth
  rw [vld_mk (by omega), vld_mk (by omega), Bool.true_and, Bool.true_and]
  exact decide_eq_true ⟨h1, h3⟩

/-- The products of a part lie within those of the whole. -/
theorem mul_part (a b c d p r : Int) (h1 : a ≤ p) (h2 : p ≤ r) (h3 : r ≤ b) (h4 : c ≤ d) :
    min4 (a * c) (a * d) (b * c) (b * d) ≤ min4 (p * c) (p * d) (r * c) (r * d) ∧ min4 (p * c) (p * d) (r * c) (r * d) ≤ max4 (p * c) (p * d) (r * c) (r * d) ∧ max4 (p * c) (p * d) (r * c) (r * d) ≤ max4 (a * c) (a * d) (b * c) (b * d) := by
  have e1 := min4_eq (p * c) (p * d) (r * c) (r * d)
  have e2 := max4_eq (p * c) (p * d) (r * c) (r * d)
  have g1 := mul_between a b c d p c h1 (by omega) (by omega) h4
  have g2 := mul_between a b c d p d h1 (by omega) h4 (by omega)
  have g3 := mul_between a b c d r c (by omega) h3 (by omega) h4
  have g4 := mul_between a b c d r d (by omega) h3 h4 (by omega)
  omega

/-- A part, scaled, lies within the whole, scaled. -/
theorem scale_part (a b p r num den s t s' t' : Int) (h : vld a b = true) (h1 : -1000 ≤ a) (h2 : b ≤ 1000) (k1 : a ≤ p) (k2 : p ≤ r) (k3 : r ≤ b) (n1 : -20 ≤ num) (n2 : num ≤ 20) (hd : den = 1 ∨ den = 2 ∨ den = 3 ∨ den = 5 ∨ den = 7 ∨ den = -3 ∨ den = -4)
    (e : scaleR a b num den = (s, t, 0)) (e' : scaleR p r num den = (s', t', 0)) : wth s' t' s t = true := by
  have hv := vld_t h
  obtain ⟨x, y, f, g1, g2, _, g3⟩ := scale_facts2 a b num den h h1 h2 n1 n2 hd
  obtain ⟨x', y', f', g1', g2', g4, g5⟩ := scale_facts2 p r num den (vld_mk (by omega)) (by omega) (by omega) n1 n2 hd
  rw [e] at f
  rw [e'] at f'
  simp only [Prod.mk.injEq] at f f'
  obtain ⟨rfl, rfl, _⟩ := f
  obtain ⟨rfl, rfl, _⟩ := f'
  have a1 := g3 p k1 (by omega)
  have a2 := g3 r (by omega) k3
  have b1 := g5 p (by omega) k2
  exact wth_mk (by omega) (by omega) (by omega) (by omega) (by omega)

end Go.Proofs.Ytfpjpilhblhhgaa
