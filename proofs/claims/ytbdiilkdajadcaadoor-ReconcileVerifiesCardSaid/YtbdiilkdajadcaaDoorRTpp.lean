/-
  Stage 8: the tables of Potential, as lists; what they prove.
-/
import Derived.Test.YtbdiilkdajadcaaDoorRPotM
import Derived.Test.YtbdiilkdajadcaaDoorRVerS
set_option linter.unusedSimpArgs false
set_option linter.unusedVariables false
namespace Go.Proofs.YtbdiilkdajadcaaDoor
open Go.RowKit

def tabL (T : Nat → Nat → Int) (L M : Nat) : List (List Int) := rowL (fun i => rowL (T i) M) L
theorem tabL_len (T : Nat → Nat → Int) (L M : Nat) : (tabL T L M).length = L := rowL_len _ _
theorem rowL_getD {α : Type} (f : Nat → α) {M j : Nat} (d : α) (h : j < M) : (rowL f M).getD j d = f j := by
  rw [List.getD_eq_getElem?_getD, rowL_at f h]; rfl
theorem rowL_out {α : Type} (f : Nat → α) {M j : Nat} (d : α) (h : ¬ j < M) : (rowL f M).getD j d = d := by
  rw [List.getD_eq_getElem?_getD, List.getElem?_eq_none (by rw [rowL_len]; omega)]; rfl
theorem tabL_row (T : Nat → Nat → Int) {L M i : Nat} (h : i < L) : (tabL T L M).getD i [] = rowL (T i) M := rowL_getD _ _ h
theorem at2_tabL (T : Nat → Nat → Int) {L M i j : Nat} (h : i < L) (k : j < M) : at2 (tabL T L M) i j = T i j := by
  unfold at2; rw [tabL_row T h, rowL_getD _ _ k]
theorem tabL_wid {T : Nat → Nat → Int} {L M : Nat} (h : ∀ x y, x < L → y < M → -1000000 ≤ T x y ∧ T x y ≤ 1000000) : Wid (tabL T L M) := fun x y => by
  by_cases hx : x < L
  · by_cases hy : y < M
    · rw [at2_tabL T hx hy]; have := h x y hx hy; omega
    · unfold at2; rw [tabL_row T hx, rowL_out _ _ hy]; omega
  · unfold at2 tabL; rw [rowL_out _ _ hx]; show _ ∧ _; rw [show ([] : List Int).getD y 0 = 0 from rfl]; omega
theorem tabL_shp (T : Nat → Nat → Int) (L M : Nat) : Shp (tabL T L M) L M := ⟨tabL_len T L M, fun i hi => by rw [tabL_row T hi, rowL_len]⟩
theorem rown_own {e : TypeId} {w : World} {base : Nat} {v : Value} {l : List Int} (h : ROwn IR e w base v l) : Own .i64 e w base v l := by
  unfold ROwn at h; unfold Own
  rw [IR_flat] at h; exact h
theorem Tab.pp {e : TypeId} {w : World} {base g L M : Nat} {rb rc : Nat → Nat} {T : Nat → Nat → Int} (h : Tab IR e w base g L M L rb rc T) : PP w (some ⟨g, 0, none⟩) (tabL T L M) := fun k p hk => by
  have hkl : k < L := by
    have := (List.getElem?_eq_some_iff.1 hk).1
    rwa [tabL_len] at this
  unfold tabL at hk
  rw [rowL_at _ hkl] at hk
  injection hk with hk
  subst hk
  refine ⟨_, rfl, h.glt, some ⟨rb k, 0, none⟩, rc k, ?_, ?_⟩
  · rw [add_own, rowL_len]; exact h.out k hkl
  · obtain ⟨A, c, e1, R, _, hm, _⟩ := (rown_own (h.row k hkl)).slice
    injection e1 with e1 _ _
    subst e1
    exact ⟨R, hm⟩
theorem IsPot.bd {a b : List Int} {T : Nat → Nat → Int} (h : IsPot a b T) : ∀ s x y, x + y = s → x ≤ a.length → y ≤ b.length → 0 ≤ T x y ∧ T x y ≤ 4 * (x : Int) + 4 * (y : Int) := by
  intro s
  induction s using Nat.strongRecOn with
  | _ s ih =>
    intro x y hs hx hy
    by_cases g : 0 < x + y
    · obtain ⟨u, v, n, hu, hv, ho, rfl, rfl, e⟩ := h.at_ x y hx hy g
      have f := okP_in hu hv ho
      have := ih (u + v) (by omega) u v rfl hu hv
      omega
    · obtain rfl : x = 0 := by omega
      obtain rfl : y = 0 := by omega
      rw [h.z]; omega
theorem IsPot.wid {a b : List Int} {T : Nat → Nat → Int} (h : IsPot a b T) (hl : ¬ lngP a b) : Wid (tabL T (a.length + 1) (b.length + 1)) := tabL_wid fun x y hx hy => by
  have := h.bd _ x y rfl (by omega) (by omega)
  unfold lngP at hl
  omega
theorem IsPot.ver {a b : List Int} {T : Nat → Nat → Int} (h : IsPot a b T) (hl : ¬ lngP a b) (c : Int) : Ver a b c (tabL T (a.length + 1) (b.length + 1)) ↔ c ≤ cst a b 0 0 := by
  constructor
  · intro k
    have := k.top
    rwa [at2_tabL T (by omega) (by omega), h.cost] at this
  · intro k
    refine ⟨hl, tabL_shp _ _ _, by rw [at2_tabL T (by omega) (by omega), h.z], by rw [at2_tabL T (by omega) (by omega), h.cost]; exact k, fun x y n hx hy ho => ?_⟩
    have f := okP_in hx hy ho
    rw [at2_tabL T (by omega) (by omega), at2_tabL T (by omega) (by omega)]
    exact h.le x y n hx hy ho
end Go.Proofs.YtbdiilkdajadcaaDoor
