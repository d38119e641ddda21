/-
  Stage 8, plain: potentials: what the tables hold while they are filled, and in the end.
-/
import Derived.Test.YtbdiilkdajadcaaDoorRMath
import Derived.Test.YtbdiilkdajadcaaDoorRTab
set_option linter.unusedSimpArgs false
set_option linter.unusedVariables false
namespace Go.Proofs.YtbdiilkdajadcaaDoor
open Go.RowKit

/-- The edits that have been looked at. -/
def dne (i j : Nat) (D : Nat → Prop) (x y n : Nat) : Prop := x < i ∨ (x = i ∧ y < j) ∨ (x = i ∧ y = j ∧ D n)
theorem okP_fwd {a b : List Int} {i j n : Nat} (h : okP a b i j n = true) : i < i + dA n ∨ (i + dA n = i ∧ j < j + dB n) := by
  match n, h with
  | 0, _ => simp only [dA, dB]; omega
  | 1, _ => simp only [dA, dB]; omega
  | 2, _ => simp only [dA, dB]; omega
  | 3, _ => simp only [dA, dB]; omega
  | 4, _ => simp only [dA, dB]; omega
  | n + 5, h => cases h
/-- A potential that proves the least costs. -/
structure IsPot (a b : List Int) (T : Nat → Nat → Int) : Prop where
  z : T 0 0 = 0
  le : ∀ x y n, x ≤ a.length → y ≤ b.length → okP a b x y n = true → T (x + dA n) (y + dB n) ≤ T x y + dC n
  at_ : ∀ x y, x ≤ a.length → y ≤ b.length → 0 < x + y → ∃ u v n, u ≤ a.length ∧ v ≤ b.length ∧ okP a b u v n = true ∧ u + dA n = x ∧ v + dB n = y ∧ T x y = T u v + dC n
theorem IsPot.unique {a b : List Int} {T U : Nat → Nat → Int} (h : IsPot a b T) (k : IsPot a b U) : ∀ s x y, x + y = s → x ≤ a.length → y ≤ b.length → T x y = U x y := by
  intro s
  induction s using Nat.strongRecOn with
  | _ s ih =>
    intro x y hs hx hy
    by_cases g : 0 < x + y
    · obtain ⟨u, v, n, hu, hv, ho, rfl, rfl, e⟩ := h.at_ x y hx hy g
      obtain ⟨u', v', n', hu', hv', ho', e1, e2, e'⟩ := k.at_ _ _ hx hy g
      have f := okP_in hu hv ho
      have f' := okP_in hu' hv' ho'
      have i1 := ih (u + v) (by omega) u v rfl hu hv
      have i2 := ih (u' + v') (by omega) u' v' rfl hu' hv'
      have l1 := k.le u v n hu hv ho
      have l2 := h.le u' v' n' hu' hv' ho'
      rw [e1, e2] at l2
      omega
    · obtain rfl : x = 0 := by omega
      obtain rfl : y = 0 := by omega
      rw [h.z, k.z]
/-- Forwards and backwards one comes to the same cost. -/
theorem IsPot.cost {a b : List Int} {T : Nat → Nat → Int} (h : IsPot a b T) : T a.length b.length = cst a b 0 0 := by
  have f1 : ∀ i j, i ≤ a.length → j ≤ b.length → T a.length b.length ≤ T i j + cst a b i j := by
    refine down_ind (by rw [cst_end]; omega) fun i j hi hj g ih => ?_
    obtain ⟨h1, h2, _⟩ := rest_at hi hj g
    have := ih _ h1
    have := h.le i j _ hi hj h1
    omega
  have f2 : ∀ s i j, i + j = s → i ≤ a.length → j ≤ b.length → cst a b 0 0 ≤ T i j + cst a b i j := by
    intro s
    induction s using Nat.strongRecOn with
    | _ s ih =>
      intro i j hs hi hj
      by_cases g : 0 < i + j
      · obtain ⟨u, v, n, hu, hv, ho, rfl, rfl, e⟩ := h.at_ i j hi hj g
        have f := okP_in hu hv ho
        have := ih (u + v) (by omega) u v rfl hu hv
        have := cst_le hu hv ho
        omega
      · obtain rfl : i = 0 := by omega
        obtain rfl : j = 0 := by omega
        rw [h.z]; omega
  have a1 := f1 0 0 (Nat.zero_le _) (Nat.zero_le _)
  have a2 := f2 _ a.length b.length rfl (Nat.le_refl _) (Nat.le_refl _)
  rw [cst_end] at a2
  rw [h.z] at a1
  omega

/-- The program's table: it starts with the cost of the edits that do not meet. -/
structure PInv (a b : List Int) (i j : Nat) (D : Nat → Prop) (T : Nat → Nat → Int) : Prop where
  z : T 0 0 = 0
  le : ∀ x y n, x ≤ a.length → y ≤ b.length → okP a b x y n = true → dne i j D x y n → T (x + dA n) (y + dB n) ≤ T x y + dC n
  at_ : ∀ x y, x ≤ a.length → y ≤ b.length → T x y = 4 * (x : Int) + 4 * (y : Int) ∨ ∃ u v n, u ≤ a.length ∧ v ≤ b.length ∧ okP a b u v n = true ∧ dne i j D u v n ∧ u + dA n = x ∧ v + dB n = y ∧ T x y = T u v + dC n
  bd : ∀ x y, x ≤ a.length → y ≤ b.length → 0 ≤ T x y ∧ T x y ≤ 4 * (x : Int) + 4 * (y : Int)
theorem PInv.start {a b : List Int} : PInv a b 0 0 (fun _ => False) (fun x y => 4 * (x : Int) + 4 * (y : Int)) :=
  ⟨by simp, fun x y n _ _ _ h => by
    rcases h with h | h | h
    · omega
    · omega
    · exact h.2.2.elim, fun _ _ _ _ => Or.inl rfl, fun x y _ _ => by omega⟩
theorem dne_src {i j x y n m p q : Nat} {D : Nat → Prop} (h : dne i j D x y n) (hf : i < p ∨ (p = i ∧ j < q)) : ¬ (x = p ∧ y = q) := by
  rcases h with h | h | h <;> omega
theorem PInv.relax {a b : List Int} {i j n : Nat} {D : Nat → Prop} {T : Nat → Nat → Int} (h : PInv a b i j D T) (hi : i ≤ a.length) (hj : j ≤ b.length) (ho : okP a b i j n = true) :
    PInv a b i j (fun m => D m ∨ m = n) (upd T (i + dA n) (j + dB n) (min2 (T (i + dA n) (j + dB n)) (T i j + dC n))) := by
  obtain ⟨-, hia, hjb, hd, d0, d4, d44⟩ := okP_in hi hj ho
  have hf := okP_fwd ho
  have hf' : i < i + dA n ∨ (i + dA n = i ∧ j < j + dB n) := hf
  obtain ⟨v0, hv0⟩ : ∃ v0, v0 = min2 (T (i + dA n) (j + dB n)) (T i j + dC n) := ⟨_, rfl⟩
  have m1 : v0 ≤ T (i + dA n) (j + dB n) ∧ v0 ≤ T i j + dC n ∧ (v0 = T (i + dA n) (j + dB n) ∨ v0 = T i j + dC n) := by
    rw [hv0]; unfold min2; split <;> omega
  rw [← hv0]
  have src : ∀ x y m, dne i j (fun m => D m ∨ m = n) x y m → upd T (i + dA n) (j + dB n) v0 x y = T x y := fun x y m hd => upd_other _ _ (dne_src (m := m) hd hf')
  have low : ∀ x y, upd T (i + dA n) (j + dB n) v0 x y ≤ T x y := fun x y => by
    by_cases g : x = i + dA n ∧ y = j + dB n
    · obtain ⟨rfl, rfl⟩ := g; rw [upd_same]; exact m1.1
    · rw [upd_other _ _ g]; exact Int.le_refl _
  have bi := h.bd i j hi hj
  refine ⟨?_, fun x y m hx hy hm hd => ?_, fun x y hx hy => ?_, fun x y hx hy => ?_⟩
  · rw [upd_other _ _ (by omega)]; exact h.z
  · rw [src x y m hd]
    by_cases g : dne i j D x y m
    · exact Int.le_trans (low _ _) (h.le x y m hx hy hm g)
    · have : x = i ∧ y = j ∧ m = n := by
        rcases hd with hd | hd | ⟨e1, e2, hd⟩
        · exact absurd (Or.inl hd) g
        · exact absurd (Or.inr (Or.inl hd)) g
        · rcases hd with hd | hd
          · exact absurd (Or.inr (Or.inr ⟨e1, e2, hd⟩)) g
          · exact ⟨e1, e2, hd⟩
      obtain ⟨rfl, rfl, rfl⟩ := this
      rw [upd_same]; exact m1.2.1
  · have old : ∀ x y, x ≤ a.length → y ≤ b.length → upd T (i + dA n) (j + dB n) v0 x y = T x y → upd T (i + dA n) (j + dB n) v0 x y = 4 * (x : Int) + 4 * (y : Int) ∨ ∃ u v m, u ≤ a.length ∧ v ≤ b.length ∧ okP a b u v m = true ∧ dne i j (fun m => D m ∨ m = n) u v m ∧ u + dA m = x ∧ v + dB m = y ∧ upd T (i + dA n) (j + dB n) v0 x y = upd T (i + dA n) (j + dB n) v0 u v + dC m := by
      intro x y hx hy e
      rw [e]
      rcases h.at_ x y hx hy with e2 | ⟨u, v, m, hu, hv, hm, hd, e1, e2, e3⟩
      · exact Or.inl e2
      · have hd' : dne i j (fun m => D m ∨ m = n) u v m := by
          rcases hd with hd | hd | ⟨q1, q2, q3⟩
          · exact Or.inl hd
          · exact Or.inr (Or.inl hd)
          · exact Or.inr (Or.inr ⟨q1, q2, Or.inl q3⟩)
        exact Or.inr ⟨u, v, m, hu, hv, hm, hd', e1, e2, by rw [src u v m hd']; exact e3⟩
    by_cases g : x = i + dA n ∧ y = j + dB n
    · obtain ⟨rfl, rfl⟩ := g
      rcases m1.2.2 with e | e
      · exact old _ _ hx hy (by rw [upd_same]; exact e)
      · refine Or.inr ⟨i, j, n, hi, hj, ho, Or.inr (Or.inr ⟨rfl, rfl, Or.inr rfl⟩), rfl, rfl, ?_⟩
        rw [upd_same, upd_other _ _ (by omega)]; exact e
    · exact old x y hx hy (upd_other _ _ g)
  · have b1 := h.bd x y hx hy
    by_cases g : x = i + dA n ∧ y = j + dB n
    · obtain ⟨rfl, rfl⟩ := g
      rw [upd_same]
      refine ⟨?_, Int.le_trans m1.1 b1.2⟩
      rcases m1.2.2 with e | e <;> omega
    · rw [upd_other _ _ g]; exact b1
theorem PInv.more {a b : List Int} {i j i' j' : Nat} {D D' : Nat → Prop} {T : Nat → Nat → Int} (h : PInv a b i j D T) (h1 : ∀ x y n, x ≤ a.length → y ≤ b.length → okP a b x y n = true → dne i' j' D' x y n → dne i j D x y n) (h2 : ∀ x y n, x ≤ a.length → y ≤ b.length → okP a b x y n = true → dne i j D x y n → dne i' j' D' x y n) : PInv a b i' j' D' T :=
  ⟨h.z, fun x y n hx hy ho hd => h.le x y n hx hy ho (h1 x y n hx hy ho hd), fun x y hx hy => by
    rcases h.at_ x y hx hy with e | ⟨u, v, n, hu, hv, ho, hd, e⟩
    · exact Or.inl e
    · exact Or.inr ⟨u, v, n, hu, hv, ho, h2 u v n hu hv ho hd, e⟩, h.bd⟩
/-- All edits of a place have been looked at. -/
theorem PInv.next {a b : List Int} {i j : Nat} {D : Nat → Prop} {T : Nat → Nat → Int} (h : PInv a b i j D T) (hD : ∀ n, okP a b i j n = true → D n) : PInv a b i (j + 1) (fun _ => False) T :=
  h.more (fun x y n _ _ ho hd => by
    rcases hd with hd | hd | hd
    · exact Or.inl hd
    · by_cases e : y = j
      · obtain ⟨rfl, _⟩ := hd; subst e
        exact Or.inr (Or.inr ⟨rfl, rfl, hD n ho⟩)
      · exact Or.inr (Or.inl (by omega))
    · exact absurd hd.2.2 id) (fun x y n _ _ _ hd => by
    rcases hd with hd | hd | hd
    · exact Or.inl hd
    · exact Or.inr (Or.inl (by omega))
    · exact Or.inr (Or.inl (by omega)))
theorem PInv.row {a b : List Int} {i : Nat} {T : Nat → Nat → Int} (h : PInv a b i (b.length + 1) (fun _ => False) T) : PInv a b (i + 1) 0 (fun _ => False) T :=
  h.more (fun x y n _ hy _ hd => by
    rcases hd with hd | hd | hd
    · by_cases e : x = i
      · exact Or.inr (Or.inl (by omega))
      · exact Or.inl (by omega)
    · omega
    · exact absurd hd.2.2 id) (fun x y n _ _ _ hd => by
    rcases hd with hd | hd | hd
    · exact Or.inl (by omega)
    · exact Or.inl (by omega)
    · exact absurd hd.2.2 id)
theorem PInv.isPot {a b : List Int} {T : Nat → Nat → Int} (h : PInv a b (a.length + 1) 0 (fun _ => False) T) : IsPot a b T := by
  have le : ∀ x y n, x ≤ a.length → y ≤ b.length → okP a b x y n = true → T (x + dA n) (y + dB n) ≤ T x y + dC n := fun x y n hx hy ho => h.le x y n hx hy ho (Or.inl (by omega))
  refine ⟨h.z, le, fun x y hx hy g => ?_⟩
  rcases h.at_ x y hx hy with e | ⟨u, v, n, hu, hv, ho, _, e⟩
  · by_cases gx : 0 < x
    · obtain ⟨x', rfl⟩ : ∃ k, x = k + 1 := ⟨x - 1, by omega⟩
      have ho : okP a b x' y 2 = true := okP2.2 (by omega)
      have l := le x' y 2 (by omega) hy ho
      have b1 := (h.bd x' y (by omega) hy).2
      refine ⟨x', y, 2, by omega, hy, ho, rfl, rfl, ?_⟩
      have l : T (x' + 1) y ≤ T x' y + 4 := l
      show T (x' + 1) y = T x' y + 4
      omega
    · obtain ⟨y', rfl⟩ : ∃ k, y = k + 1 := ⟨y - 1, by omega⟩
      have ho : okP a b x y' 3 = true := okP3.2 (by omega)
      have l := le x y' 3 hx (by omega) ho
      have b1 := (h.bd x y' hx (by omega)).2
      refine ⟨x, y', 3, hx, by omega, ho, rfl, rfl, ?_⟩
      have l : T x (y' + 1) ≤ T x y' + 4 := l
      show T x (y' + 1) = T x y' + 4
      omega
  · exact ⟨u, v, n, hu, hv, ho, e⟩

/-- The reference's table: it starts with -1. -/
structure QInv (a b : List Int) (i j : Nat) (D : Nat → Prop) (T : Nat → Nat → Int) : Prop where
  z : T 0 0 = 0
  le : ∀ x y n, x ≤ a.length → y ≤ b.length → okP a b x y n = true → dne i j D x y n → 0 ≤ T (x + dA n) (y + dB n) ∧ T (x + dA n) (y + dB n) ≤ T x y + dC n
  at_ : ∀ x y, x ≤ a.length → y ≤ b.length → 0 < x + y → T x y = -1 ∨ ∃ u v n, u ≤ a.length ∧ v ≤ b.length ∧ okP a b u v n = true ∧ dne i j D u v n ∧ u + dA n = x ∧ v + dB n = y ∧ T x y = T u v + dC n
  bd : ∀ x y, x ≤ a.length → y ≤ b.length → -1 ≤ T x y ∧ T x y ≤ 4 * (x : Int) + 4 * (y : Int)
theorem QInv.start {a b : List Int} : QInv a b 0 0 (fun _ => False) (upd (fun _ _ => -1) 0 0 0) := by
  refine ⟨upd_same _ _ _ _, fun x y n _ _ _ h => by
    rcases h with h | h | h
    · omega
    · omega
    · exact h.2.2.elim, fun x y _ _ g => Or.inl (upd_other _ _ (by omega)), fun x y _ _ => ?_⟩
  by_cases g : x = 0 ∧ y = 0
  · obtain ⟨rfl, rfl⟩ := g; rw [upd_same]; omega
  · rw [upd_other _ _ g]; omega
/-- A place that one comes to has been reached. -/
theorem QInv.here {a b : List Int} {i j : Nat} {D : Nat → Prop} {T : Nat → Nat → Int} (h : QInv a b i j D T) (hi : i ≤ a.length) (hj : j ≤ b.length) : 0 ≤ T i j := by
  by_cases gi : 0 < i
  · obtain ⟨i', rfl⟩ : ∃ k, i = k + 1 := ⟨i - 1, by omega⟩
    have := (h.le i' j 2 (by omega) hj (okP2.2 (by omega)) (Or.inl (by omega))).1
    exact this
  · obtain rfl : i = 0 := by omega
    by_cases gj : 0 < j
    · obtain ⟨j', rfl⟩ : ∃ k, j = k + 1 := ⟨j - 1, by omega⟩
      have := (h.le 0 j' 3 hi (by omega) (okP3.2 (by omega)) (Or.inr (Or.inl (by omega)))).1
      exact this
    · obtain rfl : j = 0 := by omega
      rw [h.z]; omega
theorem QInv.relax {a b : List Int} {i j n : Nat} {D : Nat → Prop} {T U : Nat → Nat → Int} (h : QInv a b i j D T) (hi : i ≤ a.length) (hj : j ≤ b.length) (ho : okP a b i j n = true)
    (hU : U = if T (i + dA n) (j + dB n) < 0 ∨ T i j + dC n < T (i + dA n) (j + dB n) then upd T (i + dA n) (j + dB n) (T i j + dC n) else T) : QInv a b i j (fun m => D m ∨ m = n) U := by
  obtain ⟨-, hia, hjb, hd, d0, d4, d44⟩ := okP_in hi hj ho
  have hf : i < i + dA n ∨ (i + dA n = i ∧ j < j + dB n) := okP_fwd ho
  have nn := h.here hi hj
  have src : ∀ x y m, dne i j (fun m => D m ∨ m = n) x y m → U x y = T x y := fun x y m hd => by
    rw [hU]; split
    · exact upd_other _ _ (dne_src (m := m) hd hf)
    · rfl
  have oth : ∀ x y, ¬ (x = i + dA n ∧ y = j + dB n) → U x y = T x y := fun x y g => by
    rw [hU]; split
    · exact upd_other _ _ g
    · rfl
  have new : 0 ≤ U (i + dA n) (j + dB n) ∧ U (i + dA n) (j + dB n) ≤ T i j + dC n ∧ (0 ≤ T (i + dA n) (j + dB n) → U (i + dA n) (j + dB n) ≤ T (i + dA n) (j + dB n)) ∧ (U (i + dA n) (j + dB n) = T i j + dC n ∨ U (i + dA n) (j + dB n) = T (i + dA n) (j + dB n)) := by
    rw [hU]; split
    · rw [upd_same]; omega
    · omega
  have bi := h.bd i j hi hj
  refine ⟨by rw [oth _ _ (by omega)]; exact h.z, fun x y m hx hy hm hd => ?_, fun x y hx hy g0 => ?_, fun x y hx hy => ?_⟩
  · rw [src x y m hd]
    by_cases g : dne i j D x y m
    · have l := h.le x y m hx hy hm g
      by_cases q : x + dA m = i + dA n ∧ y + dB m = j + dB n
      · rw [q.1, q.2] at l ⊢
        have := new.2.2.1 l.1
        omega
      · rw [oth _ _ q]; exact l
    · have : x = i ∧ y = j ∧ m = n := by
        rcases hd with hd | hd | ⟨e1, e2, hd⟩
        · exact absurd (Or.inl hd) g
        · exact absurd (Or.inr (Or.inl hd)) g
        · rcases hd with hd | hd
          · exact absurd (Or.inr (Or.inr ⟨e1, e2, hd⟩)) g
          · exact ⟨e1, e2, hd⟩
      obtain ⟨rfl, rfl, rfl⟩ := this
      exact ⟨new.1, new.2.1⟩
  · have old : U x y = T x y → U x y = -1 ∨ ∃ u v m, u ≤ a.length ∧ v ≤ b.length ∧ okP a b u v m = true ∧ dne i j (fun m => D m ∨ m = n) u v m ∧ u + dA m = x ∧ v + dB m = y ∧ U x y = U u v + dC m := by
      intro e
      rw [e]
      rcases h.at_ x y hx hy g0 with e2 | ⟨u, v, m, hu, hv, hm, hd, e1, e2, e3⟩
      · exact Or.inl e2
      · have hd' : dne i j (fun m => D m ∨ m = n) u v m := by
          rcases hd with hd | hd | ⟨q1, q2, q3⟩
          · exact Or.inl hd
          · exact Or.inr (Or.inl hd)
          · exact Or.inr (Or.inr ⟨q1, q2, Or.inl q3⟩)
        exact Or.inr ⟨u, v, m, hu, hv, hm, hd', e1, e2, by rw [src u v m hd']; exact e3⟩
    by_cases g : x = i + dA n ∧ y = j + dB n
    · obtain ⟨rfl, rfl⟩ := g
      rcases new.2.2.2 with e | e
      · refine Or.inr ⟨i, j, n, hi, hj, ho, Or.inr (Or.inr ⟨rfl, rfl, Or.inr rfl⟩), rfl, rfl, ?_⟩
        rw [oth i j (by omega)]; exact e
      · exact old e
    · exact old (oth _ _ g)
  · by_cases g : x = i + dA n ∧ y = j + dB n
    · obtain ⟨rfl, rfl⟩ := g; omega
    · rw [oth _ _ g]; exact h.bd x y hx hy
theorem QInv.more {a b : List Int} {i j i' j' : Nat} {D D' : Nat → Prop} {T : Nat → Nat → Int} (h : QInv a b i j D T) (h1 : ∀ x y n, x ≤ a.length → y ≤ b.length → okP a b x y n = true → dne i' j' D' x y n → dne i j D x y n) (h2 : ∀ x y n, x ≤ a.length → y ≤ b.length → okP a b x y n = true → dne i j D x y n → dne i' j' D' x y n) : QInv a b i' j' D' T :=
  ⟨h.z, fun x y n hx hy ho hd => h.le x y n hx hy ho (h1 x y n hx hy ho hd), fun x y hx hy g => by
    rcases h.at_ x y hx hy g with e | ⟨u, v, n, hu, hv, ho, hd, e⟩
    · exact Or.inl e
    · exact Or.inr ⟨u, v, n, hu, hv, ho, h2 u v n hu hv ho hd, e⟩, h.bd⟩
theorem QInv.next {a b : List Int} {i j : Nat} {D : Nat → Prop} {T : Nat → Nat → Int} (h : QInv a b i j D T) (hD : ∀ n, okP a b i j n = true → D n) : QInv a b i (j + 1) (fun _ => False) T :=
  h.more (fun x y n _ _ ho hd => by
    rcases hd with hd | hd | hd
    · exact Or.inl hd
    · by_cases e : y = j
      · obtain ⟨rfl, _⟩ := hd; subst e
        exact Or.inr (Or.inr ⟨rfl, rfl, hD n ho⟩)
      · exact Or.inr (Or.inl (by omega))
    · exact absurd hd.2.2 id) (fun x y n _ _ _ hd => by
    rcases hd with hd | hd | hd
    · exact Or.inl hd
    · exact Or.inr (Or.inl (by omega))
    · exact Or.inr (Or.inl (by omega)))
theorem QInv.row {a b : List Int} {i : Nat} {T : Nat → Nat → Int} (h : QInv a b i (b.length + 1) (fun _ => False) T) : QInv a b (i + 1) 0 (fun _ => False) T :=
  h.more (fun x y n _ hy _ hd => by
    rcases hd with hd | hd | hd
    · by_cases e : x = i
      · exact Or.inr (Or.inl (by omega))
      · exact Or.inl (by omega)
    · omega
    · exact absurd hd.2.2 id) (fun x y n _ _ _ hd => by
    rcases hd with hd | hd | hd
    · exact Or.inl (by omega)
    · exact Or.inl (by omega)
    · exact absurd hd.2.2 id)
theorem QInv.isPot {a b : List Int} {T : Nat → Nat → Int} (h : QInv a b (a.length + 1) 0 (fun _ => False) T) : IsPot a b T := by
  refine ⟨h.z, fun x y n hx hy ho => (h.le x y n hx hy ho (Or.inl (by omega))).2, fun x y hx hy g => ?_⟩
  rcases h.at_ x y hx hy g with e | ⟨u, v, n, hu, hv, ho, _, e⟩
  · have : 0 ≤ T x y := by
      by_cases gx : 0 < x
      · obtain ⟨x', rfl⟩ : ∃ k, x = k + 1 := ⟨x - 1, by omega⟩
        exact (h.le x' y 2 (by omega) hy (okP2.2 (by omega)) (Or.inl (by omega))).1
      · obtain ⟨y', rfl⟩ : ∃ k, y = k + 1 := ⟨y - 1, by omega⟩
        exact (h.le x y' 3 hx (by omega) (okP3.2 (by omega)) (Or.inl (by omega))).1
    omega
  · exact ⟨u, v, n, hu, hv, ho, e⟩
/-- What Potential leaves. -/
def PotPost (a b : List Int) (w : World) (e : Ending) (w' : World) : Prop :=
  (if lngP a b then e = .returned (.tuple #[.slice none 0 0, .int .i64 3]) else ∃ g c rb rc T, e = .returned (.tuple #[.slice (some ⟨g, 0, none⟩) (a.length + 1) c, .int .i64 0]) ∧ a.length + 1 ≤ c ∧ Tab IR 3 w' w.heap.size g (a.length + 1) (b.length + 1) (a.length + 1) rb rc T ∧ IsPot a b T) ∧ Below w.heap.size w w'
end Go.Proofs.YtbdiilkdajadcaaDoor
