/-
  Stage 8, plain: lists with nothing in common.
-/
import Derived.Test.YtbdiilkdajadcaaDoorRMath
set_option linter.unusedSimpArgs false
set_option linter.unusedVariables false
namespace Go.Proofs.YtbdiilkdajadcaaDoor

/-- No element of one is in the other. -/
def NoC (a b : List Int) : Prop := ∀ i j, i < a.length → j < b.length → a.getD i 0 ≠ b.getD j 0
def apt (p q : Nat) : Int := if p ≤ q then 3 * (p : Int) + 4 * ((q : Int) - p) else 3 * (q : Int) + 4 * ((p : Int) - q)
theorem apt_le {p q : Nat} (h : p ≤ q) : apt p q = 3 * (p : Int) + 4 * ((q : Int) - p) := if_pos h
theorem apt_ge {p q : Nat} (h : q ≤ p) : apt p q = 3 * (q : Int) + 4 * ((p : Int) - q) := by
  unfold apt; split <;> omega
theorem apt_eq (p : Nat) : apt p p = 3 * (p : Int) := by rw [apt_le (Nat.le_refl _)]; omega
theorem NoC.ok {a b : List Int} (h : NoC a b) {i j n : Nat} (ho : okP a b i j n = true) : (n = 1 ∧ i < a.length ∧ j < b.length) ∨ (n = 2 ∧ i < a.length) ∨ (n = 3 ∧ j < b.length) := by
  match n, ho with
  | 0, ho => have := okP0.1 ho; exact absurd this.2.2 (h _ _ this.1 this.2.1)
  | 1, ho => have := okP1.1 ho; exact Or.inl ⟨rfl, this.1, this.2.1⟩
  | 2, ho => exact Or.inr (Or.inl ⟨rfl, okP2.1 ho⟩)
  | 3, ho => exact Or.inr (Or.inr ⟨rfl, okP3.1 ho⟩)
  | 4, ho => have := okP4.1 ho; exact absurd this.2.2.1 (h _ _ (by omega) this.2.1)
  | n + 5, ho => cases ho
theorem NoC.cst {a b : List Int} (h : NoC a b) : ∀ i j, i ≤ a.length → j ≤ b.length → cst a b i j = apt (a.length - i) (b.length - j) := by
  refine down_ind (by rw [cst_end, Nat.sub_self, Nat.sub_self]; rfl) fun i j hi hj g ih => ?_
  obtain ⟨h1, h2, _⟩ := rest_at hi hj g
  have i1 := ih _ h1
  have lo : apt (a.length - i) (b.length - j) ≤ Go.Proofs.YtbdiilkdajadcaaDoor.cst a b i j := by
    rw [h2, i1]
    rcases h.ok h1 with ⟨e, hx, hy⟩ | ⟨e, hx⟩ | ⟨e, hy⟩
    · rw [e]; simp only [dA, dB, dC]; unfold apt; (repeat' split) <;> omega
    · rw [e]; simp only [dA, dB, dC]; unfold apt; (repeat' split) <;> omega
    · rw [e]; simp only [dA, dB, dC]; unfold apt; (repeat' split) <;> omega
  refine Int.le_antisymm ?_ lo
  by_cases hx : i < a.length
  · by_cases hy : j < b.length
    · have ho : okP a b i j 1 = true := okP1.2 ⟨hx, hy, h _ _ hx hy⟩
      have l := cst_le hi hj ho
      have q := ih _ ho
      rw [q] at l
      refine Int.le_trans l ?_
      simp only [dA, dB, dC]; unfold apt; (repeat' split) <;> omega
    · have ho : okP a b i j 2 = true := okP2.2 hx
      have l := cst_le hi hj ho
      rw [ih _ ho] at l
      refine Int.le_trans l ?_
      simp only [dA, dB, dC]; unfold apt; (repeat' split) <;> omega
  · have ho : okP a b i j 3 = true := okP3.2 (by omega)
    have l := cst_le hi hj ho
    rw [ih _ ho] at l
    refine Int.le_trans l ?_
    simp only [dA, dB, dC]; unfold apt; (repeat' split) <;> omega
theorem NoC.path {a b : List Int} (h : NoC a b) : ∀ m i j, i ≤ a.length → j ≤ b.length → (a.length - i) + (b.length - j) ≤ m → (pathF a b m i j).length = if a.length - i ≤ b.length - j then b.length - j else a.length - i := by
  intro m
  induction m with
  | zero => intro i j hi hj hm; rw [pathF_end (by omega) (by omega)]; simp only [List.length_nil]; split <;> omega
  | succ m ih =>
    intro i j hi hj hm
    by_cases g : i < a.length ∨ j < b.length
    · obtain ⟨m', e0, e⟩ := pathF_step (a := a) (b := b) (m := m + 1) g hm
      obtain rfl : m = m' := by omega
      obtain ⟨h1, h2, _⟩ := rest_at hi hj g
      have k := okP_in hi hj h1
      rw [e, List.length_cons, ih _ _ k.2.1 k.2.2.1 (by omega)]
      rw [h.cst i j hi hj, h.cst _ _ k.2.1 k.2.2.1] at h2
      generalize fst a b i j = n at *
      rcases h.ok h1 with ⟨rfl, hx, hy⟩ | ⟨rfl, hx⟩ | ⟨rfl, hy⟩
      all_goals
        simp only [dA, dB, dC] at h2 ⊢
        unfold apt at h2
        split at h2 <;> split at h2 <;> (repeat' split) <;> omega
    · rw [pathF_end (by omega) (by omega)]; simp only [List.length_nil]; split <;> omega
theorem NoC.scr {a b : List Int} (h : NoC a b) : (scr a b).length = if a.length ≤ b.length then b.length else a.length := by
  unfold Go.Proofs.YtbdiilkdajadcaaDoor.scr
  rw [List.length_map, h.path _ 0 0 (Nat.zero_le _) (Nat.zero_le _) (by omega)]
  rfl
theorem noC_rep (n m : Nat) : NoC (List.replicate n 0) (List.replicate m 1) := fun i j hi hj => by
  rw [List.length_replicate] at hi hj
  rw [List.getD_eq_getElem?_getD, List.getD_eq_getElem?_getD, List.getElem?_replicate, List.getElem?_replicate, if_pos hi, if_pos hj]
  decide
end Go.Proofs.YtbdiilkdajadcaaDoor
