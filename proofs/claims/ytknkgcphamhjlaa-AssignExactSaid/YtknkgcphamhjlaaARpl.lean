/-
  Stage 16, plain: the reference's way: the next load by trying all; what is done; the refusal.
-/
import Derived.Test.YtknkgcphamhjlaaAMat
set_option linter.unusedSimpArgs false
set_option linter.unusedVariables false
namespace Go.Proofs.Ytknkgcphamhjlaa
open Go.RowKit Go.Lib

/-- The first index of the greatest load that is not done, among the first k. -/
def nextZ (a : List Int) (D : List Bool) : Nat → Int
  | 0 => -1
  | k + 1 => if 0 < ld a k ∧ D.getD k false = false ∧ (nextZ a D k = -1 ∨ ld a (nextZ a D k).toNat < ld a k) then (k : Int) else nextZ a D k
theorem nextZ_no {a : List Int} {D : List Bool} {k : Nat} (h : ¬ 0 < ld a k ∨ D.getD k false = true) : nextZ a D (k + 1) = nextZ a D k := by
  conv => lhs; unfold nextZ
  rw [if_neg (fun g => by rcases h with h | h; exact h g.1; rw [g.2.1] at h; cases h)]
theorem nextZ_new {a : List Int} {D : List Bool} {k : Nat} (h : 0 < ld a k) (h1 : D.getD k false = false) (h2 : nextZ a D k = -1 ∨ ld a (nextZ a D k).toNat < ld a k) : nextZ a D (k + 1) = (k : Int) := by
  conv => lhs; unfold nextZ
  rw [if_pos ⟨h, h1, h2⟩]
theorem nextZ_old {a : List Int} {D : List Bool} {k y : Nat} (hy : nextZ a D k = (y : Int)) (h2 : ¬ ld a y < ld a k) : nextZ a D (k + 1) = (y : Int) := by
  conv => lhs; unfold nextZ
  rw [if_neg (by rw [hy, Int.toNat_natCast]; rintro ⟨_, _, g | g⟩; omega; exact h2 g), hy]
theorem nextZ_spec (a : List Int) (D : List Bool) : ∀ k, (nextZ a D k = -1 ∧ ∀ x, x < k → ¬ (0 < ld a x ∧ D.getD x false = false)) ∨ ∃ y : Nat, nextZ a D k = (y : Int) ∧ y < k ∧ 0 < ld a y ∧ D.getD y false = false ∧ ∀ x, x < k → 0 < ld a x → D.getD x false = false → x ≠ y → Rk a y x
  | 0 => Or.inl ⟨rfl, fun x h => absurd h (Nat.not_lt_zero _)⟩
  | k + 1 => by
    have ih := nextZ_spec a D k
    by_cases hc : 0 < ld a k ∧ D.getD k false = false
    · rcases ih with ⟨h1, h2⟩ | ⟨y, h1, h2, h3, h4, h5⟩
      · refine Or.inr ⟨k, nextZ_new hc.1 hc.2 (Or.inl h1), by omega, hc.1, hc.2, fun x hx hx0 hxd hne => absurd ⟨hx0, hxd⟩ (h2 x (by omega))⟩
      · by_cases g : ld a y < ld a k
        · refine Or.inr ⟨k, nextZ_new hc.1 hc.2 (Or.inr (by rw [h1, Int.toNat_natCast]; exact g)), by omega, hc.1, hc.2, fun x hx hx0 hxd hne => ?_⟩
          have hky : Rk a k y := Or.inl g
          by_cases e : x = y
          · subst e; exact hky
          · exact hky.trans (h5 x (by omega) hx0 hxd e)
        · refine Or.inr ⟨y, nextZ_old h1 g, by omega, h3, h4, fun x hx hx0 hxd hne => ?_⟩
          by_cases e : x = k
          · subst e
            unfold Rk; omega
          · exact h5 x (by omega) hx0 hxd hne
    · have hn : ¬ 0 < ld a k ∨ D.getD k false = true := by
        by_cases g : 0 < ld a k
        · cases hd : D.getD k false with
          | true => exact Or.inr rfl
          | false => exact absurd ⟨g, hd⟩ hc
        · exact Or.inl g
      rw [nextZ_no hn]
      rcases ih with ⟨h1, h2⟩ | ⟨y, h1, h2, h3, h4, h5⟩
      · refine Or.inl ⟨h1, fun x hx => ?_⟩
        by_cases e : x = k
        · subst e; exact hc
        · exact h2 x (by omega)
      · refine Or.inr ⟨y, h1, by omega, h3, h4, fun x hx hx0 hxd hne => ?_⟩
        by_cases e : x = k
        · subst e; exact absurd ⟨hx0, hxd⟩ hc
        · exact h5 x (by omega) hx0 hxd hne
/-- What is done behind n loads. -/
def dnL (a : List Int) (os : List Nat) : Nat → List Bool
  | 0 => List.replicate a.length false
  | n + 1 => (dnL a os n).set (os.getD n 0) true
theorem dnL_len (a : List Int) (os : List Nat) : ∀ n, (dnL a os n).length = a.length
  | 0 => by simp [dnL]
  | n + 1 => by unfold dnL; rw [List.length_set]; exact dnL_len a os n
theorem take_memN {os : List Nat} {n x : Nat} : x ∈ os.take n ↔ ∃ i, i < n ∧ i < os.length ∧ os.getD i 0 = x := by
  rw [List.mem_iff_getElem]
  constructor
  · rintro ⟨i, hi, e⟩
    have hi' := hi
    rw [List.length_take] at hi'
    rw [List.getElem_take] at e
    exact ⟨i, by omega, by omega, by rw [getD_ge (by omega)]; exact e⟩
  · rintro ⟨i, h1, h2, e⟩
    exact ⟨i, by rw [List.length_take]; omega, by rw [List.getElem_take, ← getD_ge h2]; exact e⟩
theorem dnL_get {a : List Int} {os : List Nat} (O : IsOrd a os) : ∀ n, n ≤ os.length → ∀ x, (dnL a os n).getD x false = true ↔ x ∈ os.take n
  | 0, _, x => by
    unfold dnL
    rw [List.getD_eq_getElem?_getD, List.getElem?_replicate]
    split <;> simp
  | n + 1, hn, x => by
    unfold dnL
    rw [getD_setB (by rw [dnL_len]; exact (O.at_ (by omega)).1), Bool.or_eq_true, dnL_get O n (by omega), take_memN, take_memN]
    constructor
    · rintro (h | ⟨i, h1, h2, h3⟩)
      · exact ⟨n, by omega, by omega, (of_decide_eq_true h).symm⟩
      · exact ⟨i, by omega, h2, h3⟩
    · rintro ⟨i, h1, h2, h3⟩
      by_cases e : i = n
      · subst e; exact Or.inl (decide_eq_true h3.symm)
      · exact Or.inr ⟨i, by omega, h2, h3⟩
theorem not_done {a : List Int} {os : List Nat} (O : IsOrd a os) {n m : Nat} (hn : n ≤ m) (hm : m < os.length) : (dnL a os n).getD (os.getD m 0) false = false := by
  cases h : (dnL a os n).getD (os.getD m 0) false with
  | false => rfl
  | true =>
    obtain ⟨i, h1, h2, h3⟩ := take_memN.1 ((dnL_get O n (by omega) _).1 h)
    have := getD_inj O.nodup h2 hm h3
    omega
theorem next_some {a : List Int} {os : List Nat} (O : IsOrd a os) {n : Nat} (hn : n < os.length) : nextZ a (dnL a os n) a.length = ((os.getD n 0 : Nat) : Int) := by
  have hA := O.at_ hn
  have hD := not_done O (Nat.le_refl n) hn
  rcases nextZ_spec a (dnL a os n) a.length with ⟨h1, h2⟩ | ⟨y, h1, h2, h3, h4, h5⟩
  · exact absurd ⟨hA.2, hD⟩ (h2 _ hA.1)
  · by_cases e : os.getD n 0 = y
    · rw [h1, e]
    · exfalso
      have r1 := h5 _ hA.1 hA.2 hD e
      obtain ⟨m, hm, em⟩ := O.find h2 h3
      have hmn : n < m := by
        rcases Nat.lt_trichotomy m n with g | g | g
        · have := (dnL_get O n (by omega) y).2 (take_memN.2 ⟨m, g, hm, em⟩)
          rw [h4] at this; cases this
        · subst g; exact absurd em e
        · exact g
      have r2 := O.before hmn hm
      rw [em] at r2
      exact Rk.irr (r1.trans r2)
theorem next_none {a : List Int} {os : List Nat} (O : IsOrd a os) : nextZ a (dnL a os os.length) a.length = -1 := by
  rcases nextZ_spec a (dnL a os os.length) a.length with ⟨h1, -⟩ | ⟨y, h1, h2, h3, h4, h5⟩
  · exact h1
  · exfalso
    obtain ⟨m, hm, em⟩ := O.find h2 h3
    have := (dnL_get O os.length (Nat.le_refl _) y).2 (take_memN.2 ⟨m, hm, hm, em⟩)
    rw [h4] at this; cases this
/-- The refusal's numbers among the first k. -/
def rfK (D : List Bool) (k : Nat) : List Int := toZ ((List.range k).filter fun x => D.getD x false)
theorem rfK_yes {D : List Bool} {k : Nat} (h : D.getD k false = true) : rfK D (k + 1) = rfK D k ++ [(k : Int)] := by
  unfold rfK toZ
  have e : [k].filter (fun x => D.getD x false) = [k] := by simp only [List.filter, h]
  rw [List.range_succ, List.filter_append, e, List.map_append]; rfl
theorem rfK_no {D : List Bool} {k : Nat} (h : D.getD k false = false) : rfK D (k + 1) = rfK D k := by
  unfold rfK
  have e : [k].filter (fun x => D.getD x false) = [] := by simp only [List.filter, h]
  rw [List.range_succ, List.filter_append, e, List.append_nil]
theorem rfK_len (D : List Bool) (k : Nat) : (rfK D k).length ≤ k := by unfold rfK toZ; rw [List.length_map]; exact Nat.le_trans (List.length_filter_le _ _) (by simp)
theorem rfK_ref {a : List Int} {os : List Nat} (O : IsOrd a os) {n : Nat} (hn : n < os.length) : rfK (dnL a os (n + 1)) a.length = refL a os n := by
  unfold rfK refL refN
  congr 1
  refine List.filter_congr fun x _ => ?_
  have h := dnL_get O (n + 1) hn x
  cases h1 : (dnL a os (n + 1)).getD x false with
  | true => rw [h1] at h; exact (List.contains_iff_mem.2 (h.1 rfl)).symm
  | false =>
    rw [h1] at h
    cases h2 : (os.take (n + 1)).contains x with
    | false => rfl
    | true => exact absurd (h.2 (List.contains_iff_mem.1 h2)) Bool.false_ne_true
/-- The list of -1 while it is made. -/
def mnK (L k : Nat) : List Int := (List.range L).map fun i => if i < k then -1 else 0
theorem mnK_zero (L : Nat) : mnK L 0 = List.replicate L 0 := by
  refine List.ext_getElem? fun i => ?_
  unfold mnK
  by_cases h : i < L <;> simp [h]
theorem mnK_full (L : Nat) : mnK L L = List.replicate L (-1) := by
  refine List.ext_getElem? fun i => ?_
  unfold mnK
  by_cases h : i < L <;> simp [h]
theorem mnK_len (L k : Nat) : (mnK L k).length = L := by unfold mnK; simp
theorem mnK_succ {L k : Nat} (hk : k < L) : (mnK L k).set k (-1) = mnK L (k + 1) := by
  refine List.ext_getElem? fun i => ?_
  unfold mnK
  rw [List.getElem?_set]
  by_cases e : k = i
  · subst e; simp [hk]
  · by_cases h : i < L
    · by_cases g : i < k
      · simp [e, h, g, (by omega : i < k + 1)]
      · have g2 : ¬ i < k + 1 := by omega
        simp [e, h, g]; omega
    · simp [e, h]
theorem BSet.inj {w : World} {b : Nat} {x y : List Bool} (h : BSet w b x) (g : BSet w b y) : x = y := by
  unfold BSet at h g
  rw [h] at g
  injection g with g
  injection g with g
  have g := congrArg Array.toList g
  simp only [List.toList_toArray] at g
  exact (List.map_inj_right (fun x y h => by injection h)).1 g
theorem dnL_inj {a : List Int} {os : List Nat} (O : IsOrd a os) {n m : Nat} (hn : n ≤ os.length) (hm : m ≤ os.length) (h : dnL a os n = dnL a os m) : n = m := by
  have key : ∀ {n m : Nat}, n < m → m ≤ os.length → dnL a os n = dnL a os m → False := fun {n m} g hm h => by
    have h1 := not_done O (Nat.le_refl n) (show n < os.length by omega)
    have h2 := (dnL_get O m hm _).2 (take_memN.2 ⟨n, g, by omega, rfl⟩)
    rw [h, h2] at h1; cases h1
  rcases Nat.lt_trichotomy n m with g | g | g
  · exact absurd (key g hm h) id
  · exact g
  · exact absurd (key g hn h.symm) id
/-- How many loads are still to do, read from the world. -/
noncomputable def msW (a : List Int) (os : List Nat) (d : Nat) (wr : World) : Nat := os.length - Classical.epsilon fun n => n ≤ os.length ∧ BSet wr d (dnL a os n)
theorem msW_eq {a : List Int} {os : List Nat} (O : IsOrd a os) {d n : Nat} {wr : World} (hn : n ≤ os.length) (h : BSet wr d (dnL a os n)) : msW a os d wr = os.length - n := by
  have e := Classical.epsilon_spec (p := fun n => n ≤ os.length ∧ BSet wr d (dnL a os n)) ⟨n, hn, h⟩
  unfold msW
  rw [dnL_inj O e.1 hn (e.2.inj h)]
end Go.Proofs.Ytknkgcphamhjlaa
