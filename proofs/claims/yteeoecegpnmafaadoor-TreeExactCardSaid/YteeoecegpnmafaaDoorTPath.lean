/-
  Stage 10, plain: paths of a layout whose elements are in order, as lists and as sets.
-/
import Derived.Test.YteeoecegpnmafaaDoorTLay
set_option linter.unusedSimpArgs false
set_option linter.unusedVariables false
namespace Go.Proofs.YteeoecegpnmafaaDoor
open Go.RowKit

def parA (l : List El) (i : Int) : Int := (l.getD i.toNat zeroE).par
def wayF (l : List El) : Nat → Int → List Int
  | 0, _ => []
  | f + 1, i => if i < 0 then [] else wayF l f (parA l i) ++ [i]
def onF (l : List El) : Nat → Int → List Bool
  | 0, _ => List.replicate l.length false
  | f + 1, i => if i < 0 then List.replicate l.length false else (onF l f (parA l i)).set i.toNat true
/-- The path of i; the set of its elements. -/
def wayZ (l : List El) (i : Int) : List Int := wayF l (i + 1).toNat i
def onZ (l : List El) (i : Int) : List Bool := onF l (i + 1).toNat i
/-- The indexes in a set, ascending. -/
def memZ : List Bool → List Int := fun bs => ((List.range bs.length).filter fun j => bs.getD j false).map fun (j : Nat) => (j : Int)
theorem memZ_take {bs : List Bool} {k : Nat} (h : k < bs.length) : memZ (bs.take (k + 1)) = memZ (bs.take k) ++ (if bs.getD k false then [(k : Int)] else []) := by
  unfold memZ
  rw [List.length_take, List.length_take, show min (k + 1) bs.length = k + 1 by omega, show min k bs.length = k by omega, List.range_succ, List.filter_append, List.map_append]
  have e1 : (List.range k).filter (fun j => (bs.take (k + 1)).getD j false) = (List.range k).filter (fun j => (bs.take k).getD j false) := by
    refine List.filter_congr fun j hj => ?_
    have hj' := List.mem_range.1 hj
    rw [List.getD_eq_getElem?_getD, List.getD_eq_getElem?_getD, List.getElem?_take_of_lt (by omega), List.getElem?_take_of_lt hj']
  rw [e1]
  congr 1
  have e2 : (bs.take (k + 1)).getD k false = bs.getD k false := by
    rw [List.getD_eq_getElem?_getD, List.getD_eq_getElem?_getD, List.getElem?_take_of_lt (by omega)]
  simp only [List.filter_cons, List.filter_nil, e2]
  split <;> simp
theorem memZ_mem {bs : List Bool} {x : Int} : x ∈ memZ bs ↔ 0 ≤ x ∧ bs.getD x.toNat false = true := by
  unfold memZ
  rw [List.mem_map]
  constructor
  · rintro ⟨j, hj, rfl⟩
    exact ⟨by omega, by simpa using (List.mem_filter.1 hj).2⟩
  · rintro ⟨h0, h1⟩
    refine ⟨x.toNat, List.mem_filter.2 ⟨List.mem_range.2 ?_, by simpa using h1⟩, by omega⟩
    by_cases g : x.toNat < bs.length
    · exact g
    · rw [List.getD_eq_getElem?_getD, List.getElem?_eq_none (by omega)] at h1; cases h1
theorem memZ_snoc (bs : List Bool) (i : Nat) (hi : i < bs.length) (h : ∀ j, i ≤ j → bs.getD j false = false) : memZ (bs.set i true) = memZ bs ++ [(i : Int)] := by
  unfold memZ
  rw [List.length_set]
  obtain ⟨d, hd⟩ : ∃ d, bs.length = i + 1 + d := ⟨bs.length - (i + 1), by omega⟩
  rw [hd, show List.range (i + 1 + d) = List.range i ++ (i :: (List.range d).map (fun j => i + 1 + j)) by
    rw [List.range_add, List.range_succ, List.append_assoc]; rfl]
  rw [List.filter_append, List.filter_append, List.map_append, List.map_append]
  have g1 : (List.range i).filter (fun j => (bs.set i true).getD j false) = (List.range i).filter (fun j => bs.getD j false) := by
    refine List.filter_congr fun j hj => ?_
    have hj' := List.mem_range.1 hj
    rw [List.getD_eq_getElem?_getD, List.getElem?_set_ne (by omega), List.getD_eq_getElem?_getD]
  have g2 : ((List.range d).map (fun j => i + 1 + j)).filter (fun j => (bs.set i true).getD j false) = [] := by
    rw [List.filter_eq_nil_iff]
    intro j hj
    obtain ⟨k, _, rfl⟩ := List.mem_map.1 hj
    rw [List.getD_eq_getElem?_getD, List.getElem?_set_ne (by omega), ← List.getD_eq_getElem?_getD, h _ (by omega)]; simp
  have g3 : ((List.range d).map (fun j => i + 1 + j)).filter (fun j => bs.getD j false) = [] := by
    rw [List.filter_eq_nil_iff]
    intro j hj
    obtain ⟨k, _, rfl⟩ := List.mem_map.1 hj
    rw [h _ (by omega)]; simp
  have g4 : (bs.set i true).getD i false = true := by rw [List.getD_eq_getElem?_getD, List.getElem?_set_self hi]; rfl
  rw [List.filter_cons_of_pos (by simpa using g4), List.filter_cons_of_neg (by rw [h i (Nat.le_refl _)]; simp), g1, g2, g3]
  simp
/-- Each element's parent stands before it. -/
def Par (l : List El) : Prop := ∀ i : Int, 0 ≤ i → i < l.length → (i = 0 ∧ parA l i = -1) ∨ (0 < i ∧ 0 ≤ parA l i ∧ parA l i < i)
theorem Par.of {l : List El} (h : vlE [] l = 0) : Par l := fun i h0 h1 => by
  have hk : l[i.toNat]? = some (l.getD i.toNat zeroE) := by
    rw [List.getD_eq_getElem?_getD, List.getElem?_eq_getElem (by omega)]; rfl
  rcases par_lt h hk with ⟨a, b, _⟩ | ⟨a, _, b, c⟩
  · exact Or.inl ⟨by omega, b⟩
  · exact Or.inr ⟨by omega, b, by unfold parA; omega⟩
theorem Par.bd {l : List El} (h : Par l) {i : Int} (h0 : 0 ≤ i) (h1 : i < l.length) : -1 ≤ parA l i ∧ parA l i < i := by
  rcases h i h0 h1 with ⟨a, b⟩ | ⟨a, b, c⟩ <;> omega
theorem wayF_fuel {l : List El} (hp : Par l) : ∀ (f : Nat) (i : Int), i < l.length → (i + 1).toNat ≤ f → wayF l f i = wayF l (i + 1).toNat i
  | 0, i, _, hf => by rw [show (i + 1).toNat = 0 by omega]
  | f + 1, i, hi, hf => by
    by_cases h0 : i < 0
    · rw [show (i + 1).toNat = 0 by omega]
      show (if i < 0 then _ else _) = []
      rw [if_pos h0]
    · have hb := hp.bd (by omega) hi
      obtain ⟨g, hg⟩ : ∃ g, (i + 1).toNat = g + 1 := ⟨i.toNat, by omega⟩
      rw [hg]
      show (if i < 0 then _ else wayF l f (parA l i) ++ [i]) = (if i < 0 then _ else wayF l g (parA l i) ++ [i])
      rw [if_neg h0, if_neg h0, wayF_fuel hp f _ (by omega) (by omega), ← wayF_fuel hp g _ (by omega) (by omega)]
theorem wayZ_neg {l : List El} {i : Int} (h : i < 0) : wayZ l i = [] := by
  unfold wayZ
  rw [show (i + 1).toNat = 0 by omega]; rfl
theorem wayZ_step {l : List El} (hp : Par l) {i : Int} (h0 : 0 ≤ i) (h1 : i < l.length) : wayZ l i = wayZ l (parA l i) ++ [i] := by
  have hb := hp.bd h0 h1
  unfold wayZ
  obtain ⟨g, hg⟩ : ∃ g, (i + 1).toNat = g + 1 := ⟨i.toNat, by omega⟩
  rw [hg]
  show (if i < 0 then _ else wayF l g (parA l i) ++ [i]) = _
  rw [if_neg (by omega), wayF_fuel hp g _ (by omega) (by omega)]
theorem onF_fuel {l : List El} (hp : Par l) : ∀ (f : Nat) (i : Int), i < l.length → (i + 1).toNat ≤ f → onF l f i = onF l (i + 1).toNat i
  | 0, i, _, hf => by rw [show (i + 1).toNat = 0 by omega]
  | f + 1, i, hi, hf => by
    by_cases h0 : i < 0
    · rw [show (i + 1).toNat = 0 by omega]
      show (if i < 0 then _ else _) = List.replicate _ _
      rw [if_pos h0]
    · have hb := hp.bd (by omega) hi
      obtain ⟨g, hg⟩ : ∃ g, (i + 1).toNat = g + 1 := ⟨i.toNat, by omega⟩
      rw [hg]
      show (if i < 0 then _ else (onF l f (parA l i)).set i.toNat true) = (if i < 0 then _ else (onF l g (parA l i)).set i.toNat true)
      rw [if_neg h0, if_neg h0, onF_fuel hp f _ (by omega) (by omega), ← onF_fuel hp g _ (by omega) (by omega)]
theorem onZ_neg {l : List El} {i : Int} (h : i < 0) : onZ l i = List.replicate l.length false := by
  unfold onZ
  rw [show (i + 1).toNat = 0 by omega]; rfl
theorem onZ_step {l : List El} (hp : Par l) {i : Int} (h0 : 0 ≤ i) (h1 : i < l.length) : onZ l i = (onZ l (parA l i)).set i.toNat true := by
  have hb := hp.bd h0 h1
  unfold onZ
  obtain ⟨g, hg⟩ : ∃ g, (i + 1).toNat = g + 1 := ⟨i.toNat, by omega⟩
  rw [hg]
  show (if i < 0 then _ else (onF l g (parA l i)).set i.toNat true) = _
  rw [if_neg (by omega), onF_fuel hp g _ (by omega) (by omega)]
/-- Induction along the parents. -/
theorem par_ind {l : List El} (hp : Par l) {P : Int → Prop} (h0 : ∀ i : Int, i < 0 → P i) (h1 : ∀ i : Int, 0 ≤ i → i < l.length → P (parA l i) → P i) : ∀ (f : Nat) (i : Int), i < l.length → (i + 1).toNat ≤ f → P i
  | 0, i, _, hf => h0 i (by omega)
  | f + 1, i, hi, hf => by
    by_cases hn : i < 0
    · exact h0 i hn
    · have hb := hp.bd (by omega) hi
      exact h1 i (by omega) hi (par_ind hp h0 h1 f _ (by omega) (by omega))
theorem onZ_spec {l : List El} (hp : Par l) {i : Int} (hi : i < l.length) : (onZ l i).length = l.length ∧ (∀ j : Nat, i < (j : Int) → (onZ l i).getD j false = false) ∧ memZ (onZ l i) = wayZ l i := by
  refine par_ind hp (P := fun (i : Int) => (onZ l i).length = l.length ∧ (∀ j : Nat, i < (j : Int) → (onZ l i).getD j false = false) ∧ memZ (onZ l i) = wayZ l i) (fun i h => ?_) (fun i h0 h1 ih => ?_) _ i hi (Nat.le_refl _)
  · rw [onZ_neg h, wayZ_neg h]
    refine ⟨by simp, fun j _ => ?_, ?_⟩
    · rw [List.getD_eq_getElem?_getD]
      by_cases g : j < l.length <;> simp [g]
    · unfold memZ
      rw [List.map_eq_nil_iff, List.filter_eq_nil_iff]
      intro j hj
      rw [List.getD_eq_getElem?_getD]
      by_cases g : j < l.length <;> simp [g]
  · obtain ⟨a, b, c⟩ := ih
    have hb := hp.bd h0 h1
    rw [onZ_step hp h0 h1, wayZ_step hp h0 h1, ← c]
    refine ⟨by rw [List.length_set]; exact a, fun j hj => ?_, ?_⟩
    · rw [List.getD_eq_getElem?_getD, List.getElem?_set_ne (by omega), ← List.getD_eq_getElem?_getD]
      exact b j (by omega)
    · rw [memZ_snoc _ i.toNat (by omega) (fun j hj => b j (by omega)), show ((i.toNat : Nat) : Int) = i by omega]
theorem on_mem {l : List El} (hp : Par l) {i : Int} (hi : i < l.length) {x : Int} (hx : 0 ≤ x) : (onZ l i).getD x.toNat false = true ↔ x ∈ wayZ l i := by
  rw [← (onZ_spec hp hi).2.2, memZ_mem]
  exact ⟨fun h => ⟨hx, h⟩, fun h => h.2⟩
theorem way_last {l : List El} (hp : Par l) {i : Int} (h0 : 0 ≤ i) (h1 : i < l.length) : (wayZ l i).length ≠ 0 ∧ (wayZ l i)[(wayZ l i).length - 1]? = some i := by
  rw [wayZ_step hp h0 h1]
  simp
theorem way_head {l : List El} (hp : Par l) {i : Int} (h0 : 0 ≤ i) (h1 : i < l.length) : (wayZ l i)[0]? = some 0 := by
  have := par_ind hp (P := fun (i : Int) => 0 ≤ i → (wayZ l i)[0]? = some 0) (fun i h g => by omega) (fun i h0 h1 ih _ => by
    rw [wayZ_step hp h0 h1]
    rcases hp i h0 h1 with ⟨a, b⟩ | ⟨a, b, c⟩
    · rw [wayZ_neg (by omega)]; simp [a]
    · have := ih b
      rw [List.getElem?_append_left (List.getElem?_eq_some_iff.1 this).1]
      exact this) _ i h1 (Nat.le_refl _)
  exact this h0
theorem way_bd {l : List El} (hp : Par l) {i : Int} (h1 : i < l.length) : ∀ x ∈ wayZ l i, 0 ≤ x ∧ x ≤ i := by
  refine par_ind hp (P := fun (i : Int) => ∀ x ∈ wayZ l i, 0 ≤ x ∧ x ≤ i) (fun i h x hx => by rw [wayZ_neg h] at hx; cases hx) (fun i h0 h1 ih x hx => ?_) _ i h1 (Nat.le_refl _)
  have hb := hp.bd h0 h1
  rw [wayZ_step hp h0 h1] at hx
  rcases List.mem_append.1 hx with hx | hx
  · have := ih x hx; omega
  · rw [List.mem_singleton.1 hx]; omega
/-- The path of an element on a path is a beginning of it. -/
theorem way_take {l : List El} (hp : Par l) {i : Int} (h1 : i < l.length) {m : Nat} {x : Int} (hx : (wayZ l i)[m]? = some x) : (wayZ l i).take (m + 1) = wayZ l x := by
  have := par_ind hp (P := fun (i : Int) => ∀ m x, (wayZ l i)[m]? = some x → (wayZ l i).take (m + 1) = wayZ l x) (fun i h m x hx => by rw [wayZ_neg h] at hx; simp at hx) (fun i h0 h1 ih m x hx => by
    have hs := wayZ_step hp h0 h1
    rw [hs] at hx ⊢
    by_cases hm : m < (wayZ l (parA l i)).length
    · rw [List.getElem?_append_left hm] at hx
      rw [List.take_append_of_le_length (by omega)]
      exact ih m x hx
    · have hlt := (List.getElem?_eq_some_iff.1 hx).1
      rw [List.length_append, List.length_singleton] at hlt
      rw [List.getElem?_append_right (by omega), show m - (wayZ l (parA l i)).length = 0 by omega] at hx
      simp at hx
      subst hx
      rw [List.take_of_length_le (by rw [List.length_append, List.length_singleton]; omega)]
      exact hs.symm) _ i h1 (Nat.le_refl _)
  exact this m x hx
/-- Each one is the parent of the next one. -/
theorem way_next {l : List El} (hp : Par l) {i : Int} (h1 : i < l.length) {m : Nat} {x : Int} (hx : (wayZ l i)[m + 1]? = some x) : (wayZ l i)[m]? = some (parA l x) ∧ 0 ≤ parA l x ∧ parA l x < x ∧ x < l.length := by
  have ht := way_take hp h1 hx
  have hb := way_bd hp h1 x (List.mem_of_getElem? hx)
  have hs := wayZ_step hp hb.1 (by omega)
  have hlen : (wayZ l x).length = m + 2 := by
    rw [← ht, List.length_take]
    have := (List.getElem?_eq_some_iff.1 hx).1
    omega
  have hpl : (wayZ l (parA l x)).length = m + 1 := by rw [hs, List.length_append] at hlen; simp at hlen; omega
  have hpn : 0 ≤ parA l x := by
    by_cases g : parA l x < 0
    · rw [wayZ_neg g] at hpl; simp at hpl
    · omega
  have hpb := hp.bd hb.1 (show x < l.length by omega)
  have hl := way_last hp hpn (show parA l x < l.length by omega)
  rw [hpl] at hl
  have e : (wayZ l i)[m]? = (wayZ l x)[m]? := by rw [← ht, List.getElem?_take_of_lt (by omega)]
  refine ⟨?_, hpn, hpb.2, by omega⟩
  rw [e, hs, List.getElem?_append_left (by omega)]
  exact hl.2
theorem way_len {l : List El} (hp : Par l) {i : Int} (h1 : i < l.length) : (wayZ l i).length ≤ l.length := by
  have h := (onZ_spec hp h1)
  rw [← h.2.2]
  unfold memZ
  rw [List.length_map]
  refine Nat.le_trans (List.length_filter_le _ _) ?_
  rw [List.length_range, h.1]; exact Nat.le_refl _
end Go.Proofs.YteeoecegpnmafaaDoor
