/-
  Stage 8, plain: edits, the best rest from each place, scripts and their costs.
-/
import Derived.Test.YtbdiilkdajadcaaDoorBase
set_option linter.unusedSimpArgs false
set_option linter.unusedVariables false
namespace Go.Proofs.YtbdiilkdajadcaaDoor
open Go.RowKit

/-- What an edit passes of the announced and of the measured list, and its cost. -/
def dA : Nat → Nat | 0 => 1 | 1 => 1 | 2 => 1 | 3 => 0 | _ => 2
def dB : Nat → Nat | 0 => 1 | 1 => 1 | 2 => 0 | 3 => 1 | _ => 2
def dC : Nat → Int | 0 => 0 | 1 => 3 | _ => 4
/-- Is edit n possible at the place (i, j)? -/
def okP (a b : List Int) (i j : Nat) : Nat → Bool
  | 0 => decide (i < a.length ∧ j < b.length ∧ a.getD i 0 = b.getD j 0)
  | 1 => decide (i < a.length ∧ j < b.length ∧ a.getD i 0 ≠ b.getD j 0)
  | 2 => decide (i < a.length)
  | 3 => decide (j < b.length)
  | 4 => decide (i + 1 < a.length ∧ j + 1 < b.length ∧ a.getD i 0 = b.getD (j + 1) 0 ∧ a.getD (i + 1) 0 = b.getD j 0 ∧ a.getD i 0 ≠ a.getD (i + 1) 0)
  | _ => false
theorem okP_in {a b : List Int} {i j n : Nat} (hi : i ≤ a.length) (hj : j ≤ b.length) (h : okP a b i j n = true) : n < 5 ∧ i + dA n ≤ a.length ∧ j + dB n ≤ b.length ∧ 1 ≤ dA n + dB n ∧ 0 ≤ dC n ∧ dC n ≤ 4 ∧ dC n ≤ 4 * (dA n : Int) + 4 * (dB n : Int) := by
  match n, h with
  | 0, h => have := of_decide_eq_true h; simp only [dA, dB, dC]; omega
  | 1, h => have := of_decide_eq_true h; simp only [dA, dB, dC]; omega
  | 2, h => have := of_decide_eq_true h; simp only [dA, dB, dC]; omega
  | 3, h => have := of_decide_eq_true h; simp only [dA, dB, dC]; omega
  | 4, h => have := of_decide_eq_true h; simp only [dA, dB, dC]; omega
  | n + 5, h => cases h
theorem dC_in (n : Nat) : 0 ≤ dC n ∧ dC n ≤ 4 := by
  match n with
  | 0 => decide
  | 1 => decide
  | n + 2 => simp [dC]
theorem okP2 {a b : List Int} {i j : Nat} : okP a b i j 2 = true ↔ i < a.length := decide_eq_true_iff
theorem okP3 {a b : List Int} {i j : Nat} : okP a b i j 3 = true ↔ j < b.length := decide_eq_true_iff
theorem okP0 {a b : List Int} {i j : Nat} : okP a b i j 0 = true ↔ (i < a.length ∧ j < b.length ∧ a.getD i 0 = b.getD j 0) := decide_eq_true_iff
theorem okP1 {a b : List Int} {i j : Nat} : okP a b i j 1 = true ↔ (i < a.length ∧ j < b.length ∧ a.getD i 0 ≠ b.getD j 0) := decide_eq_true_iff
theorem okP4 {a b : List Int} {i j : Nat} : okP a b i j 4 = true ↔ (i + 1 < a.length ∧ j + 1 < b.length ∧ a.getD i 0 = b.getD (j + 1) 0 ∧ a.getD (i + 1) 0 = b.getD j 0 ∧ a.getD i 0 ≠ a.getD (i + 1) 0) := decide_eq_true_iff

/-- The best edit among those below k, where T says what the rest costs. -/
abbrev Bst := Option (Int × Nat)
def put1 (c : Int) (n : Nat) : Bst → Bst
  | none => some (c, n)
  | some x => if c < x.1 then some (c, n) else some x
def pickK (T : Nat → Nat → Int) (a b : List Int) (i j : Nat) : Nat → Bst
  | 0 => none
  | n + 1 => if okP a b i j n = true then put1 (dC n + T (i + dA n) (j + dB n)) n (pickK T a b i j n) else pickK T a b i j n
def bestK (T : Nat → Nat → Int) (a b : List Int) (i j : Nat) : Int × Nat := (pickK T a b i j 5).getD (0, 0)
theorem pickK_spec {T : Nat → Nat → Int} {a b : List Int} {i j : Nat} (k : Nat) :
    (pickK T a b i j k = none ∧ ∀ n, n < k → okP a b i j n = false) ∨
    ∃ c m, pickK T a b i j k = some (c, m) ∧ m < k ∧ okP a b i j m = true ∧ c = dC m + T (i + dA m) (j + dB m) ∧ (∀ n, n < k → okP a b i j n = true → c ≤ dC n + T (i + dA n) (j + dB n)) ∧ (∀ n, n < m → okP a b i j n = true → c < dC n + T (i + dA n) (j + dB n)) := by
  induction k with
  | zero => exact Or.inl ⟨rfl, fun n hn => absurd hn (Nat.not_lt_zero n)⟩
  | succ k ih =>
    unfold pickK
    by_cases hk : okP a b i j k = true
    · rw [if_pos hk]
      right
      rcases ih with ⟨e, h⟩ | ⟨c, m, e, h1, h2, h3, h4, h5⟩
      · rw [e]
        refine ⟨_, k, rfl, Nat.lt_succ_self k, hk, rfl, fun n hn ho => ?_, fun n hn ho => ?_⟩
        · by_cases g : n = k
          · subst g; exact Int.le_refl _
          · rw [h n (by omega)] at ho; cases ho
        · rw [h n hn] at ho; cases ho
      · rw [e]
        show ∃ c' m', (if dC k + T (i + dA k) (j + dB k) < c then some (dC k + T (i + dA k) (j + dB k), k) else some (c, m)) = _ ∧ _
        by_cases g : dC k + T (i + dA k) (j + dB k) < c
        · rw [if_pos g]
          refine ⟨_, k, rfl, Nat.lt_succ_self k, hk, rfl, fun n hn ho => ?_, fun n hn ho => ?_⟩
          · by_cases g' : n = k
            · subst g'; exact Int.le_refl _
            · have := h4 n (by omega) ho; omega
          · have := h4 n hn ho; omega
        · rw [if_neg g]
          refine ⟨c, m, rfl, by omega, h2, h3, fun n hn ho => ?_, h5⟩
          by_cases g' : n = k
          · subst g'; omega
          · exact h4 n (by omega) ho
    · rw [if_neg hk]
      have hk' : okP a b i j k = false := by cases h : okP a b i j k <;> simp_all
      rcases ih with ⟨e, h⟩ | ⟨c, m, e, h1, h2, h3, h4, h5⟩
      · refine Or.inl ⟨e, fun n hn => ?_⟩
        by_cases g : n = k
        · subst g; exact hk'
        · exact h n (by omega)
      · refine Or.inr ⟨c, m, e, by omega, h2, h3, fun n hn ho => ?_, h5⟩
        by_cases g : n = k
        · subst g; rw [hk'] at ho; cases ho
        · exact h4 n (by omega) ho
theorem pickK_congr {T U : Nat → Nat → Int} {a b : List Int} {i j : Nat} (h : ∀ n, okP a b i j n = true → T (i + dA n) (j + dB n) = U (i + dA n) (j + dB n)) (k : Nat) : pickK T a b i j k = pickK U a b i j k := by
  induction k with
  | zero => rfl
  | succ k ih =>
    unfold pickK
    rw [ih]
    split
    · rename_i g; rw [h k g]
    · rfl
/-- The cost and the first edit of the best rest, with so many steps at most. -/
def restF (a b : List Int) : Nat → Nat → Nat → Int × Nat
  | 0, _, _ => (0, 0)
  | m + 1, i, j => bestK (fun x y => (restF a b m x y).1) a b i j
theorem restF_fuel {a b : List Int} (m : Nat) : ∀ m' i j, i ≤ a.length → j ≤ b.length → (a.length - i) + (b.length - j) ≤ m → m ≤ m' → restF a b m i j = restF a b m' i j := by
  induction m with
  | zero =>
    intro m' i j hi hj h _
    cases m' with
    | zero => rfl
    | succ m' =>
      show (0, 0) = bestK _ a b i j
      unfold bestK
      rcases pickK_spec (T := fun x y => (restF a b m' x y).1) (a := a) (b := b) (i := i) (j := j) 5 with ⟨e, _⟩ | ⟨c, n, _, _, h2, _⟩
      · rw [e]; rfl
      · have := okP_in hi hj h2; omega
  | succ m ih =>
    intro m' i j hi hj h hm
    obtain ⟨m', rfl⟩ : ∃ k, m' = k + 1 := ⟨m' - 1, by omega⟩
    show bestK _ a b i j = bestK _ a b i j
    unfold bestK
    rw [pickK_congr fun n ho => ?_]
    have := okP_in hi hj ho
    rw [ih m' _ _ (by omega) (by omega) (by omega) (by omega)]
def restR (a b : List Int) (i j : Nat) : Int × Nat := restF a b (a.length + b.length + 1) i j
def cst (a b : List Int) (i j : Nat) : Int := (restR a b i j).1
def fst (a b : List Int) (i j : Nat) : Nat := (restR a b i j).2
theorem restR_eq {a b : List Int} {i j : Nat} (hi : i ≤ a.length) (hj : j ≤ b.length) : restR a b i j = bestK (cst a b) a b i j := by
  show bestK _ a b i j = _
  unfold bestK
  rw [pickK_congr fun n ho => ?_]
  have := okP_in hi hj ho
  show (restF a b (a.length + b.length) _ _).1 = (restF a b (a.length + b.length + 1) _ _).1
  rw [restF_fuel (a.length + b.length) (a.length + b.length + 1) _ _ (by omega) (by omega) (by omega) (by omega)]
theorem rest_end {a b : List Int} : restR a b a.length b.length = (0, 0) := by
  rw [restR_eq (Nat.le_refl _) (Nat.le_refl _)]
  unfold bestK
  rcases pickK_spec (T := cst a b) (a := a) (b := b) (i := a.length) (j := b.length) 5 with ⟨e, _⟩ | ⟨c, n, _, _, h2, _⟩
  · rw [e]; rfl
  · have := okP_in (Nat.le_refl _) (Nat.le_refl _) h2; omega
theorem cst_end {a b : List Int} : cst a b a.length b.length = 0 := by unfold cst; rw [rest_end]
/-- Elsewhere the first edit is possible, and the least. -/
theorem rest_at {a b : List Int} {i j : Nat} (hi : i ≤ a.length) (hj : j ≤ b.length) (h : i < a.length ∨ j < b.length) :
    okP a b i j (fst a b i j) = true ∧ cst a b i j = dC (fst a b i j) + cst a b (i + dA (fst a b i j)) (j + dB (fst a b i j)) ∧ (∀ n, n < fst a b i j → okP a b i j n = true → cst a b i j < dC n + cst a b (i + dA n) (j + dB n)) := by
  have e0 := restR_eq hi hj
  unfold bestK at e0
  rcases pickK_spec (T := cst a b) (a := a) (b := b) (i := i) (j := j) 5 with ⟨e, h0⟩ | ⟨c, n, e, _, h2, h3, h4, h5⟩
  · rcases h with h | h
    · have := h0 2 (by omega); rw [okP2.2 h] at this; cases this
    · have := h0 3 (by omega); rw [okP3.2 h] at this; cases this
  · rw [e] at e0
    have e1 : fst a b i j = n := by unfold fst; rw [e0]; rfl
    have e2 : cst a b i j = c := by unfold cst; rw [e0]; rfl
    rw [e1, e2]
    exact ⟨h2, h3, h5⟩
theorem cst_le {a b : List Int} {i j n : Nat} (hi : i ≤ a.length) (hj : j ≤ b.length) (ho : okP a b i j n = true) : cst a b i j ≤ dC n + cst a b (i + dA n) (j + dB n) := by
  have hk := okP_in hi hj ho
  have e0 := restR_eq (a := a) (b := b) (i := i) (j := j) hi hj
  unfold bestK at e0
  rcases pickK_spec (T := cst a b) (a := a) (b := b) (i := i) (j := j) 5 with ⟨e, h0⟩ | ⟨c, m, e, _, h2, h3, h4, h5⟩
  · have := h0 n hk.1; rw [ho] at this; cases this
  · rw [e] at e0
    have e2 : cst a b i j = c := by unfold cst; rw [e0]; rfl
    rw [e2]; exact h4 n hk.1 ho
/-- Going down to the end. -/
theorem down_ind {a b : List Int} {P : Nat → Nat → Prop} (h0 : P a.length b.length) (hs : ∀ i j, i ≤ a.length → j ≤ b.length → (i < a.length ∨ j < b.length) → (∀ n, okP a b i j n = true → P (i + dA n) (j + dB n)) → P i j) : ∀ i j, i ≤ a.length → j ≤ b.length → P i j := by
  have : ∀ m i j, i ≤ a.length → j ≤ b.length → (a.length - i) + (b.length - j) ≤ m → P i j := by
    intro m
    induction m with
    | zero =>
      intro i j hi hj h
      obtain rfl : i = a.length := by omega
      obtain rfl : j = b.length := by omega
      exact h0
    | succ m ih =>
      intro i j hi hj h
      by_cases g : i < a.length ∨ j < b.length
      · refine hs i j hi hj g fun n ho => ?_
        have := okP_in hi hj ho
        exact ih _ _ (by omega) (by omega) (by omega)
      · obtain rfl : i = a.length := by omega
        obtain rfl : j = b.length := by omega
        exact h0
  exact fun i j hi hj => this _ i j hi hj (Nat.le_refl _)
theorem cst_bd {a b : List Int} : ∀ i j, i ≤ a.length → j ≤ b.length → 0 ≤ cst a b i j ∧ cst a b i j ≤ 4 * ((a.length : Int) - i) + 4 * ((b.length : Int) - j) := by
  refine down_ind ⟨by rw [cst_end]; omega, by rw [cst_end]; omega⟩ fun i j hi hj h ih => ?_
  obtain ⟨h1, h2, _⟩ := rest_at hi hj h
  have k := okP_in hi hj h1
  have i1 := ih _ h1
  refine ⟨by omega, ?_⟩
  rcases h with h | h
  · have g1 := cst_le hi hj (okP2.2 h : okP a b i j 2 = true)
    have g2 := ih 2 (okP2.2 h)
    simp only [dA, dB, dC] at g1 g2
    omega
  · have g1 := cst_le hi hj (okP3.2 h : okP a b i j 3 = true)
    have g2 := ih 3 (okP3.2 h)
    simp only [dA, dB, dC] at g1 g2
    omega

/-- The script that the first edits make. -/
def pathF (a b : List Int) : Nat → Nat → Nat → List Nat
  | 0, _, _ => []
  | m + 1, i, j => if i < a.length ∨ j < b.length then fst a b i j :: pathF a b m (i + dA (fst a b i j)) (j + dB (fst a b i j)) else []
theorem pathF_end {a b : List Int} {m i j : Nat} (hi : ¬ i < a.length) (hj : ¬ j < b.length) : pathF a b m i j = [] := by
  cases m with
  | zero => rfl
  | succ m => exact if_neg (by omega)
theorem pathF_step {a b : List Int} {m i j : Nat} (h : i < a.length ∨ j < b.length) (hm : (a.length - i) + (b.length - j) ≤ m) : ∃ k, m = k + 1 ∧ pathF a b m i j = fst a b i j :: pathF a b k (i + dA (fst a b i j)) (j + dB (fst a b i j)) := by
  obtain ⟨k, rfl⟩ : ∃ k, m = k + 1 := ⟨m - 1, by omega⟩
  exact ⟨k, rfl, if_pos h⟩
theorem pathF_len {a b : List Int} (m : Nat) : ∀ i j, (pathF a b m i j).length ≤ m := by
  induction m with
  | zero => intro i j; exact Nat.le_refl _
  | succ m ih =>
    intro i j
    unfold pathF
    split
    · rw [List.length_cons]; have := ih (i + dA (fst a b i j)) (j + dB (fst a b i j)); omega
    · simp
def scr (a b : List Int) : List Int := (pathF a b (a.length + b.length) 0 0).map Int.ofNat
/-- A list is longer than 96. -/
def lngP (a b : List Int) : Prop := 96 < a.length ∨ 96 < b.length
instance (a b : List Int) : Decidable (lngP a b) := inferInstanceAs (Decidable (_ ∨ _))
/-- What Align answers. -/
def aliR (a b : List Int) : List Int × Int × Int := if lngP a b then ([], 0, 3) else (scr a b, cst a b 0 0, 0)

/-- Where a script leads, and what it costs. -/
abbrev Plc := Option (Nat × Nat × Int)
def okI (a b : List Int) (i j : Nat) (e : Int) : Bool := decide (0 ≤ e ∧ e < 5) && okP a b i j e.toNat
def stpR (a b : List Int) (s : Plc) (e : Int) : Plc :=
  match s with
  | none => none
  | some (i, j, c) => if okI a b i j e = true then some (i + dA e.toNat, j + dB e.toNat, c + dC e.toNat) else none
def wlk (a b : List Int) (s : Plc) (es : List Int) : Plc := es.foldl (stpR a b) s
theorem wlk_none {a b : List Int} (es : List Int) : wlk a b none es = none := by
  induction es with
  | nil => rfl
  | cons e es ih => exact ih
theorem wlk_app {a b : List Int} {s : Plc} {es fs : List Int} : wlk a b s (es ++ fs) = wlk a b (wlk a b s es) fs := List.foldl_append
theorem wlk_take {a b : List Int} {s : Plc} {es : List Int} {k : Nat} (h : k < es.length) : wlk a b s (es.take (k + 1)) = stpR a b (wlk a b s (es.take k)) (es.getD k 0) := by
  rw [List.take_succ_eq_append_getElem h, wlk_app, List.getD_eq_getElem?_getD, List.getElem?_eq_getElem h]
  rfl
theorem wlk_cut {a b : List Int} {s : Plc} {es : List Int} {k : Nat} (h : wlk a b s (es.take k) = none) : wlk a b s es = none := by
  have e : wlk a b s es = wlk a b (wlk a b s (es.take k)) (es.drop k) := by rw [← wlk_app, List.take_append_drop]
  rw [e, h, wlk_none]
def endR (a b : List Int) : Plc → Int × Int
  | none => (0, 1)
  | some (i, j, c) => if i = a.length ∧ j = b.length then (c, 0) else (0, 1)
/-- What Cost answers. -/
def cosR (a b es : List Int) : Int × Int := if lngP a b then (0, 3) else endR a b (wlk a b (some (0, 0, 0)) es)
theorem wlk_in {a b : List Int} {es : List Int} : ∀ {i j x y : Nat} {c d : Int}, i ≤ a.length → j ≤ b.length → wlk a b (some (i, j, c)) es = some (x, y, d) → x ≤ a.length ∧ y ≤ b.length ∧ cst a b i j + c ≤ cst a b x y + d ∧ c ≤ d ∧ d - c ≤ 4 * ((x : Int) - i) + 4 * ((y : Int) - j) := by
  induction es with
  | nil =>
    intro i j x y c d hi hj h
    have h : some (i, j, c) = some (x, y, d) := h
    injection h with h; injection h with h1 h2; injection h2 with h2 h3
    subst h1; subst h2; subst h3
    exact ⟨hi, hj, Int.le_refl _, Int.le_refl _, by omega⟩
  | cons e es ih =>
    intro i j x y c d hi hj h
    have h : wlk a b (stpR a b (some (i, j, c)) e) es = some (x, y, d) := h
    unfold stpR at h
    simp only [] at h
    split at h
    · rename_i ho
      unfold okI at ho
      rw [Bool.and_eq_true] at ho
      have k := okP_in hi hj ho.2
      have l := cst_le hi hj ho.2
      have := ih (by omega) (by omega) h
      omega
    · rw [wlk_none] at h; cases h
theorem okP_lt {a b : List Int} {i j n : Nat} (h : okP a b i j n = true) : n < 5 := by
  match n, h with
  | 0, _ => decide
  | 1, _ => decide
  | 2, _ => decide
  | 3, _ => decide
  | 4, _ => decide
  | n + 5, h => cases h
theorem stp_ok {a b : List Int} {i j n : Nat} {c : Int} (h : okP a b i j n = true) : stpR a b (some (i, j, c)) (Int.ofNat n) = some (i + dA n, j + dB n, c + dC n) := by
  have hk := okP_lt h
  show (if okI a b i j (Int.ofNat n) = true then _ else _) = _
  rw [if_pos (by unfold okI; rw [Bool.and_eq_true]; exact ⟨decide_eq_true ⟨by simp, by simp; omega⟩, h⟩)]
  rfl
theorem wlk_path {a b : List Int} (m : Nat) : ∀ i j c, i ≤ a.length → j ≤ b.length → (a.length - i) + (b.length - j) ≤ m → wlk a b (some (i, j, c)) ((pathF a b m i j).map Int.ofNat) = some (a.length, b.length, c + cst a b i j) := by
  induction m with
  | zero =>
    intro i j c hi hj h
    obtain rfl : i = a.length := by omega
    obtain rfl : j = b.length := by omega
    show some (a.length, b.length, c) = _
    rw [cst_end, Int.add_zero]
  | succ m ih =>
    intro i j c hi hj h
    by_cases g : i < a.length ∨ j < b.length
    · obtain ⟨k, hk, e⟩ := pathF_step (m := m + 1) g h
      obtain rfl : m = k := by omega
      rw [e]
      obtain ⟨h1, h2, _⟩ := rest_at hi hj g
      have hk := okP_in hi hj h1
      show wlk a b (stpR a b (some (i, j, c)) (Int.ofNat (fst a b i j))) _ = _
      rw [stp_ok h1, ih _ _ _ (by omega) (by omega) (by omega), h2, Int.add_assoc]
    · rw [pathF_end (by omega) (by omega)]
      obtain rfl : i = a.length := by omega
      obtain rfl : j = b.length := by omega
      show some (a.length, b.length, c) = _
      rw [cst_end, Int.add_zero]
/-- The best script costs what was said. -/
theorem cos_scr {a b : List Int} (h : ¬ lngP a b) : cosR a b (scr a b) = (cst a b 0 0, 0) := by
  unfold cosR scr
  rw [if_neg h, wlk_path _ 0 0 0 (Nat.zero_le _) (Nat.zero_le _) (by omega), Int.zero_add]
  exact if_pos ⟨rfl, rfl⟩
end Go.Proofs.YtbdiilkdajadcaaDoor
