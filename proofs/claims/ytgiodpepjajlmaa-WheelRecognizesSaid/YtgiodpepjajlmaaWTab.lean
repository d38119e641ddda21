/-
  Stage 7, plain: the table of the best divisions, from the end; the path through it; divisions and their costs.
-/
import Derived.Test.YtgiodpepjajlmaaBase
set_option linter.unusedSimpArgs false
set_option linter.unusedVariables false
namespace Go.Proofs.Ytgiodpepjajlmaa
open Go.RowKit

/-- The difference of two. -/
def ab (x y : Int) : Int := max2 (x - y) (y - x)
theorem ab_nn (x y : Int) : 0 ≤ ab x y := by unfold ab max2; split <;> omega
theorem ab_ref (x y : Int) : ab x y = if x - y < 0 then -(x - y) else x - y := by unfold ab max2; split <;> split <;> omega
theorem ab_le {x y z : Int} (h1 : x - y ≤ z) (h2 : y - x ≤ z) : ab x y ≤ z := by unfold ab max2; split <;> omega
/-- The cost of the first k distances; none if one does not fit. -/
def cmpK (d p : List Int) (tol : Int) : Nat → Option Int
  | 0 => some 0
  | k + 1 => match cmpK d p tol k with
    | none => none
    | some s => if ab (d.getD k 0) (p.getD k 0) ≤ tol then some (s + ab (d.getD k 0) (p.getD k 0)) else none
def cmpV (d p : List Int) (tol : Int) : Option Int := if p.length ≤ d.length then cmpK d p tol p.length else none
theorem cmpK_none {d p : List Int} {tol : Int} {k m : Nat} (h : cmpK d p tol k = none) (hm : k ≤ m) : cmpK d p tol m = none := by
  induction m with
  | zero => obtain rfl : k = 0 := by omega
            exact h
  | succ m ih =>
    by_cases e : k = m + 1
    · subst e; exact h
    · have := ih (by omega)
      show (match cmpK d p tol m with | none => none | some s => _) = none
      rw [this]
theorem cmpK_bad {d p : List Int} {tol : Int} {k : Nat} (h : ¬ ab (d.getD k 0) (p.getD k 0) ≤ tol) : cmpK d p tol (k + 1) = none := by
  show (match cmpK d p tol k with | none => none | some s => _) = none
  split
  · rfl
  · rw [if_neg h]
theorem cmpK_good {d p : List Int} {tol s : Int} {k : Nat} (hs : cmpK d p tol k = some s) (h : ab (d.getD k 0) (p.getD k 0) ≤ tol) : cmpK d p tol (k + 1) = some (s + ab (d.getD k 0) (p.getD k 0)) := by
  show (match cmpK d p tol k with | none => none | some s => _) = _
  rw [hs]; exact if_pos h
theorem cmpK_bd {d p : List Int} {tol : Int} {k : Nat} {s : Int} (h : cmpK d p tol k = some s) : 0 ≤ s ∧ s ≤ tol * k := by
  induction k generalizing s with
  | zero => injection h with h; subst h; simp
  | succ k ih =>
    have h' : (match cmpK d p tol k with | none => none | some s => if ab (d.getD k 0) (p.getD k 0) ≤ tol then some (s + ab (d.getD k 0) (p.getD k 0)) else none) = some s := h
    split at h'
    · cases h'
    · rename_i s0 e
      split at h'
      · rename_i hle
        injection h' with h'
        have := ih e
        have h0 := ab_nn (d.getD k 0) (p.getD k 0)
        have e2 : tol * ((k + 1 : Nat) : Int) = tol * k + tol := by rw [Int.natCast_succ, Int.mul_add, Int.mul_one]
        omega
      · cases h'
theorem cmpK_mono {d p : List Int} {tol tol' : Int} {k : Nat} {s : Int} (h : cmpK d p tol k = some s) (ht : tol ≤ tol') : cmpK d p tol' k = some s := by
  induction k generalizing s with
  | zero => exact h
  | succ k ih =>
    have h' : (match cmpK d p tol k with | none => none | some s => if ab (d.getD k 0) (p.getD k 0) ≤ tol then some (s + ab (d.getD k 0) (p.getD k 0)) else none) = some s := h
    split at h'
    · cases h'
    · rename_i s0 e
      split at h'
      · rename_i hle
        rw [cmpK_good (ih e) (by omega)]; exact h'
      · cases h'
theorem cmpV_bd {d p : List Int} {tol s : Int} (h : cmpV d p tol = some s) : p.length ≤ d.length ∧ 0 ≤ s ∧ s ≤ tol * p.length := by
  unfold cmpV at h
  split at h
  · exact ⟨by assumption, cmpK_bd h⟩
  · cases h
theorem cmpV_mono {d p : List Int} {tol tol' : Int} {s : Int} (h : cmpV d p tol = some s) (ht : tol ≤ tol') : cmpV d p tol' = some s := by
  unfold cmpV at h ⊢
  split at h
  · rw [if_pos (by assumption)]; exact cmpK_mono h ht
  · cases h
theorem cmpV_nil {d : List Int} {tol : Int} : cmpV d [] tol = some 0 := rfl
theorem cmpV_long {d p : List Int} {tol : Int} (h : d.length < p.length) : cmpV d p tol = none := by unfold cmpV; rw [if_neg (by omega)]

/-- The best division from a place on: its cost and its first pattern. -/
abbrev Cel3 := Option (Int × Nat)
def stK (d : List Int) (ps : List (List Int)) (tol : Int) (T : List Cel3) : Nat → Cel3
  | 0 => none
  | k + 1 => match cmpV d (ps.getD k []) tol with
    | none => stK d ps tol T k
    | some c => match T.getD (ps.getD k []).length none with
      | none => stK d ps tol T k
      | some x => match stK d ps tol T k with
        | none => some (c + x.1, k)
        | some y => if c + x.1 < y.1 then some (c + x.1, k) else some y
def stp (d : List Int) (ps : List (List Int)) (tol : Int) (T : List Cel3) : Cel3 := stK d ps tol T ps.length
section
variable {d : List Int} {ps : List (List Int)} {tol : Int} {T : List Cel3} {k : Nat}
theorem stK_nofit (h : cmpV d (ps.getD k []) tol = none) : stK d ps tol T (k + 1) = stK d ps tol T k := by
  show (match cmpV d (ps.getD k []) tol with | none => _ | some c => _) = _
  rw [h]
theorem stK_norest {c : Int} (h : cmpV d (ps.getD k []) tol = some c) (h2 : T.getD (ps.getD k []).length none = none) : stK d ps tol T (k + 1) = stK d ps tol T k := by
  show (match cmpV d (ps.getD k []) tol with | none => _ | some c => _) = _
  rw [h]
  show (match T.getD (ps.getD k []).length none with | none => _ | some x => _) = _
  rw [h2]
theorem stK_first {c : Int} {x : Int × Nat} (h : cmpV d (ps.getD k []) tol = some c) (h2 : T.getD (ps.getD k []).length none = some x) (h3 : stK d ps tol T k = none) : stK d ps tol T (k + 1) = some (c + x.1, k) := by
  show (match cmpV d (ps.getD k []) tol with | none => _ | some c => _) = _
  rw [h]
  show (match T.getD (ps.getD k []).length none with | none => _ | some x => _) = _
  rw [h2]
  show (match stK d ps tol T k with | none => _ | some y => _) = _
  rw [h3]
theorem stK_less {c : Int} {x y : Int × Nat} (h : cmpV d (ps.getD k []) tol = some c) (h2 : T.getD (ps.getD k []).length none = some x) (h3 : stK d ps tol T k = some y) (h4 : c + x.1 < y.1) : stK d ps tol T (k + 1) = some (c + x.1, k) := by
  show (match cmpV d (ps.getD k []) tol with | none => _ | some c => _) = _
  rw [h]
  show (match T.getD (ps.getD k []).length none with | none => _ | some x => _) = _
  rw [h2]
  show (match stK d ps tol T k with | none => _ | some y => _) = _
  rw [h3]
  exact if_pos h4
theorem stK_not {c : Int} {x y : Int × Nat} (h : cmpV d (ps.getD k []) tol = some c) (h2 : T.getD (ps.getD k []).length none = some x) (h3 : stK d ps tol T k = some y) (h4 : ¬ c + x.1 < y.1) : stK d ps tol T (k + 1) = some y := by
  show (match cmpV d (ps.getD k []) tol with | none => _ | some c => _) = _
  rw [h]
  show (match T.getD (ps.getD k []).length none with | none => _ | some x => _) = _
  rw [h2]
  show (match stK d ps tol T k with | none => _ | some y => _) = _
  rw [h3]
  exact if_neg h4
/-- What the best is made of. -/
theorem stK_some {z : Int × Nat} (h : stK d ps tol T k = some z) : z.2 < k ∧ ∃ c x, cmpV d (ps.getD z.2 []) tol = some c ∧ T.getD (ps.getD z.2 []).length none = some x ∧ z.1 = c + x.1 := by
  induction k with
  | zero => cases h
  | succ k ih =>
    cases hc : cmpV d (ps.getD k []) tol with
    | none => rw [stK_nofit hc] at h; have := ih h; exact ⟨by omega, this.2⟩
    | some c =>
      cases hx : T.getD (ps.getD k []).length none with
      | none => rw [stK_norest hc hx] at h; have := ih h; exact ⟨by omega, this.2⟩
      | some x =>
        cases hy : stK d ps tol T k with
        | none => rw [stK_first hc hx hy] at h; injection h with h; subst h; exact ⟨Nat.lt_succ_self k, c, x, hc, hx, rfl⟩
        | some y =>
          by_cases hl : c + x.1 < y.1
          · rw [stK_less hc hx hy hl] at h; injection h with h; subst h; exact ⟨Nat.lt_succ_self k, c, x, hc, hx, rfl⟩
          · rw [stK_not hc hx hy hl] at h; injection h with h; subst h; have := ih hy; exact ⟨by omega, this.2⟩
/-- No pattern is better. -/
theorem stK_least {j : Nat} {c : Int} {x : Int × Nat} (hj : j < k) (hc : cmpV d (ps.getD j []) tol = some c) (hx : T.getD (ps.getD j []).length none = some x) : ∃ z, stK d ps tol T k = some z ∧ z.1 ≤ c + x.1 := by
  induction k with
  | zero => omega
  | succ k ih =>
    by_cases e : j = k
    · subst e
      cases hy : stK d ps tol T j with
      | none => exact ⟨_, stK_first hc hx hy, Int.le_refl _⟩
      | some y =>
        by_cases hl : c + x.1 < y.1
        · exact ⟨_, stK_less hc hx hy hl, Int.le_refl _⟩
        · exact ⟨y, stK_not hc hx hy hl, by omega⟩
    · obtain ⟨z, hz, hle⟩ := ih (by omega)
      cases hc' : cmpV d (ps.getD k []) tol with
      | none => exact ⟨z, (stK_nofit hc').trans hz, hle⟩
      | some c' =>
        cases hx' : T.getD (ps.getD k []).length none with
        | none => exact ⟨z, (stK_norest hc' hx').trans hz, hle⟩
        | some x' =>
          by_cases hl : c' + x'.1 < z.1
          · exact ⟨_, stK_less hc' hx' hz hl, by show c' + x'.1 ≤ _; omega⟩
          · exact ⟨z, stK_not hc' hx' hz hl, hle⟩
end
/-- The table, from the end. -/
def tb (ps : List (List Int)) (tol : Int) : List Int → List Cel3
  | [] => [stp [] ps tol [some (0, 0)], some (0, 0)]
  | x :: d => stp (x :: d) ps tol (tb ps tol d) :: tb ps tol d
theorem tb_len (ps : List (List Int)) (tol : Int) (d : List Int) : (tb ps tol d).length = d.length + 2 := by
  induction d with
  | nil => rfl
  | cons x d ih => show (tb ps tol d).length + 1 = _; rw [ih]; simp
theorem tb_at (ps : List (List Int)) (tol : Int) (d : List Int) (i : Nat) (h : i ≤ d.length) : (tb ps tol d).getD i none = stp (d.drop i) ps tol ((tb ps tol d).drop (i + 1)) := by
  induction d generalizing i with
  | nil => obtain rfl : i = 0 := by simpa using h
           rfl
  | cons x d ih =>
    cases i with
    | zero => rfl
    | succ i => exact ih i (by simpa using h)
theorem tb_end (ps : List (List Int)) (tol : Int) (d : List Int) : (tb ps tol d).getD (d.length + 1) none = some (0, 0) := by
  induction d with
  | nil => rfl
  | cons x d ih => exact ih
theorem getD_drop {α : Type} (l : List α) (n j : Nat) (z : α) : (l.drop n).getD j z = l.getD (n + j) z := by
  rw [List.getD_eq_getElem?_getD, List.getElem?_drop, List.getD_eq_getElem?_getD]
/-- A cell of the table. -/
theorem tb_some {ps : List (List Int)} {tol : Int} {d : List Int} {i : Nat} {z : Int × Nat} (hi : i ≤ d.length) (h : (tb ps tol d).getD i none = some z) :
    z.2 < ps.length ∧ ∃ c x, cmpV (d.drop i) (ps.getD z.2 []) tol = some c ∧ (tb ps tol d).getD (i + 1 + (ps.getD z.2 []).length) none = some x ∧ z.1 = c + x.1 ∧ i + 1 + (ps.getD z.2 []).length ≤ d.length + 1 := by
  rw [tb_at ps tol d i hi] at h
  obtain ⟨h1, c, x, h2, h3, h4⟩ := stK_some h
  refine ⟨h1, c, x, h2, by rw [← getD_drop]; exact h3, h4, ?_⟩
  have := (cmpV_bd h2).1
  rw [List.length_drop] at this
  omega
theorem tb_bd {ps : List (List Int)} {tol : Int} {d : List Int} (hp : ∀ p ∈ ps, p.length ≤ 5) (h0 : 0 ≤ tol) (h1 : tol ≤ 10000) (m : Nat) : ∀ i z, d.length + 1 ≤ i + m → i ≤ d.length + 1 → (tb ps tol d).getD i none = some z → 0 ≤ z.1 ∧ z.1 ≤ 50000 * (m : Int) ∧ z.2 ≤ ps.length := by
  induction m with
  | zero =>
    intro i z hm hi h
    obtain rfl : i = d.length + 1 := by omega
    rw [tb_end] at h
    injection h with h
    subst h
    exact ⟨by simp, by simp, Nat.zero_le _⟩
  | succ m ih =>
    intro i z hm hi h
    by_cases e : i = d.length + 1
    · subst e
      rw [tb_end] at h
      injection h with h
      subst h
      exact ⟨by simp, by simp; omega, Nat.zero_le _⟩
    · obtain ⟨k1, c, x, k2, k3, k4, k5⟩ := tb_some (by omega) h
      have k6 := ih _ _ (by omega) k5 k3
      have k7 := cmpV_bd k2
      have k8 : (ps.getD z.2 []).length ≤ 5 := by
        rw [List.getD_eq_getElem?_getD, List.getElem?_eq_getElem k1]
        exact hp _ (List.getElem_mem k1)
      have k9 : tol * ((ps.getD z.2 []).length : Int) ≤ 10000 * 5 := Int.mul_le_mul (by omega) (by omega) (by omega) (by omega)
      refine ⟨by omega, by omega, by omega⟩

/-- The path through the table from place i on. -/
def pth (ps : List (List Int)) (t : List Cel3) (n : Nat) : Nat → Nat → List Nat
  | 0, _ => []
  | f + 1, i => if i < n then ((t.getD i none).getD (0, 0)).2 :: pth ps t n f (i + (ps.getD ((t.getD i none).getD (0, 0)).2 []).length + 1) else []
theorem pth_end {ps : List (List Int)} {t : List Cel3} {n f i : Nat} (h : n ≤ i) : pth ps t n f i = [] := by
  cases f with
  | zero => rfl
  | succ f => exact if_neg (by omega)
theorem pth_fuel {ps : List (List Int)} {t : List Cel3} {n f g i : Nat} (h : n ≤ i + f) (h2 : n ≤ i + g) : pth ps t n f i = pth ps t n g i := by
  induction f generalizing g i with
  | zero => rw [pth_end (by omega), pth_end (by omega)]
  | succ f ih =>
    cases g with
    | zero => rw [pth_end (by omega), pth_end (by omega)]
    | succ g =>
      by_cases hi : i < n
      · show (if i < n then _ else _) = (if i < n then _ else _)
        rw [if_pos hi, if_pos hi, ih (g := g) (by omega) (by omega)]
      · rw [pth_end (by omega), pth_end (by omega)]
theorem pth_step {ps : List (List Int)} {t : List Cel3} {n i : Nat} {z : Int × Nat} (h : i < n) (hz : t.getD i none = some z) : pth ps t n n i = z.2 :: pth ps t n n (i + (ps.getD z.2 []).length + 1) := by
  rw [pth_fuel (f := n) (g := n + 1) (by omega) (by omega)]
  show (if i < n then _ else _) = _
  rw [if_pos h, hz]
  rfl

/-- The result. -/
def recPath (d : List Int) (ps : List (List Int)) (tol : Int) : List Nat := pth ps (tb ps tol d) (d.length + 1) (d.length + 1) 0
def okD (l : List Int) : Bool := l.all fun n => decide (1 ≤ n ∧ n ≤ 10000)
def recErr (d : List Int) (ps : List (List Int)) (tol : Int) : Int :=
  if 768 < d.length ∨ 16 < ps.length ∨ ps.any (fun p => decide (5 < p.length)) = true then 3 else
  if okD d = true ∧ (0 ≤ tol ∧ tol ≤ 10000) ∧ ps.all okD = true then 0 else 2
def recR (d : List Int) (ps : List (List Int)) (tol : Int) : List Int × Int × Int :=
  if recErr d ps tol = 0 then
    match (tb ps tol d).getD 0 none with
    | none => ([], 0, 15)
    | some z => ((recPath d ps tol).map Int.ofNat, z.1, 0)
  else ([], 0, recErr d ps tol)
/-- The cost of a division from place i on. -/
def dvc (d : List Int) (ps : List (List Int)) (tol : Int) : List Nat → Nat → Option Int
  | [], i => if i = d.length + 1 then some 0 else none
  | k :: L, i => if k < ps.length ∧ i ≤ d.length then
      match cmpV (d.drop i) (ps.getD k []) tol with
      | none => none
      | some c => match dvc d ps tol L (i + 1 + (ps.getD k []).length) with
        | none => none
        | some r => some (c + r)
    else none
theorem dvc_cons {d : List Int} {ps : List (List Int)} {tol : Int} {k i : Nat} {L : List Nat} {r : Int} : dvc d ps tol (k :: L) i = some r ↔ (k < ps.length ∧ i ≤ d.length) ∧ ∃ c s, cmpV (d.drop i) (ps.getD k []) tol = some c ∧ dvc d ps tol L (i + 1 + (ps.getD k []).length) = some s ∧ r = c + s := by
  constructor
  · intro h
    have h' : (if k < ps.length ∧ i ≤ d.length then (match cmpV (d.drop i) (ps.getD k []) tol with | none => none | some c => match dvc d ps tol L (i + 1 + (ps.getD k []).length) with | none => none | some r => some (c + r)) else none) = some r := h
    split at h'
    · rename_i hk
      split at h'
      · cases h'
      · rename_i c hc
        split at h'
        · cases h'
        · rename_i s hs
          injection h' with h'
          exact ⟨hk, c, s, hc, hs, h'.symm⟩
    · cases h'
  · rintro ⟨hk, c, s, hc, hs, rfl⟩
    show (if k < ps.length ∧ i ≤ d.length then (match cmpV (d.drop i) (ps.getD k []) tol with | none => none | some c => match dvc d ps tol L (i + 1 + (ps.getD k []).length) with | none => none | some r => some (c + r)) else none) = _
    rw [if_pos hk, hc]
    show (match dvc d ps tol L (i + 1 + (ps.getD k []).length) with | none => none | some r => some (c + r)) = _
    rw [hs]
theorem dvc_mono {d : List Int} {ps : List (List Int)} {tol tol' : Int} {L : List Nat} {i : Nat} {r : Int} (h : dvc d ps tol L i = some r) (ht : tol ≤ tol') : dvc d ps tol' L i = some r := by
  induction L generalizing i r with
  | nil => exact h
  | cons k L ih =>
    obtain ⟨hk, c, s, hc, hs, e⟩ := dvc_cons.1 h
    exact dvc_cons.2 ⟨hk, c, s, cmpV_mono hc ht, ih hs, e⟩
/-- The table is no worse than any division. -/
theorem tb_le {d : List Int} {ps : List (List Int)} {tol : Int} {L : List Nat} {i : Nat} {r : Int} (h : dvc d ps tol L i = some r) : ∃ z, (tb ps tol d).getD i none = some z ∧ z.1 ≤ r := by
  induction L generalizing i r with
  | nil =>
    have h' : (if i = d.length + 1 then some (0 : Int) else none) = some r := h
    split at h'
    · rename_i e
      injection h' with h'
      subst e; subst h'
      exact ⟨_, tb_end ps tol d, Int.le_refl _⟩
    · cases h'
  | cons k L ih =>
    obtain ⟨hk, c, s, hc, hs, e⟩ := dvc_cons.1 h
    obtain ⟨x, hx, hle⟩ := ih hs
    rw [tb_at ps tol d i hk.2]
    obtain ⟨z, hz, hz2⟩ := stK_least (d := d.drop i) (ps := ps) (tol := tol) (T := (tb ps tol d).drop (i + 1)) (k := ps.length) hk.1 hc (by rw [getD_drop]; exact hx)
    exact ⟨z, hz, by omega⟩
/-- The path is a division with the table's cost. -/
theorem pth_dvc {d : List Int} {ps : List (List Int)} {tol : Int} (m : Nat) : ∀ i z, d.length + 1 ≤ i + m → i ≤ d.length + 1 → (tb ps tol d).getD i none = some z → dvc d ps tol (pth ps (tb ps tol d) (d.length + 1) (d.length + 1) i) i = some z.1 := by
  induction m with
  | zero =>
    intro i z hm hi h
    obtain rfl : i = d.length + 1 := by omega
    rw [tb_end] at h
    injection h with h
    subst h
    rw [pth_end (Nat.le_refl _)]
    exact if_pos rfl
  | succ m ih =>
    intro i z hm hi h
    by_cases e : i = d.length + 1
    · subst e
      rw [tb_end] at h
      injection h with h
      subst h
      rw [pth_end (Nat.le_refl _)]
      exact if_pos rfl
    · rw [pth_step (by omega) h]
      obtain ⟨k1, c, x, k2, k3, k4, k5⟩ := tb_some (by omega) h
      refine dvc_cons.2 ⟨⟨k1, by omega⟩, c, x.1, k2, ?_, k4⟩
      have e2 : i + (ps.getD z.2 []).length + 1 = i + 1 + (ps.getD z.2 []).length := by omega
      rw [e2]
      exact ih _ _ (by omega) k5 k3
/-- The axles of a division. -/
def axl (ps : List (List Int)) (L : List Nat) : Nat := (L.map fun k => (ps.getD k []).length + 1).sum
theorem dvc_axl {d : List Int} {ps : List (List Int)} {tol : Int} {L : List Nat} {i : Nat} {r : Int} (h : dvc d ps tol L i = some r) : i + axl ps L = d.length + 1 ∧ ∀ k ∈ L, k < ps.length := by
  induction L generalizing i r with
  | nil =>
    have h' : (if i = d.length + 1 then some (0 : Int) else none) = some r := h
    split at h'
    · exact ⟨by simpa [axl] using by assumption, by simp⟩
    · cases h'
  | cons k L ih =>
    obtain ⟨hk, c, s, hc, hs, e⟩ := dvc_cons.1 h
    obtain ⟨h1, h2⟩ := ih hs
    refine ⟨?_, ?_⟩
    · unfold axl at h1 ⊢
      rw [List.map_cons, List.sum_cons]
      omega
    · intro j hj
      rcases List.mem_cons.1 hj with rfl | hj
      · exact hk.1
      · exact h2 j hj
theorem dvc_nn {d : List Int} {ps : List (List Int)} {tol : Int} {L : List Nat} {i : Nat} {r : Int} (h : dvc d ps tol L i = some r) : 0 ≤ r := by
  induction L generalizing i r with
  | nil =>
    have h' : (if i = d.length + 1 then some (0 : Int) else none) = some r := h
    split at h'
    · injection h' with h'; omega
    · cases h'
  | cons k L ih =>
    obtain ⟨hk, c, s, hc, hs, e⟩ := dvc_cons.1 h
    have := ih hs
    have := (cmpV_bd hc).2.1
    omega
end Go.Proofs.Ytgiodpepjajlmaa
