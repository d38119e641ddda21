/-
  Stage 16, plain: what an assignment and a refusal tell; the search through all assignments.
-/
import Derived.Test.YtknkgcphamhjlaaAMat
import Derived.Test.YtknkgcphamhjlaaAFit
set_option linter.unusedSimpArgs false
set_option linter.unusedVariables false
namespace Go.Proofs.Ytknkgcphamhjlaa
open Go.RowKit Go.Lib

theorem getD_z {l : List Int} {k : Nat} (h : k < l.length) : l.getD k (-1) = ld l k := by
  unfold ld; rw [List.getD_eq_getElem?_getD, List.getD_eq_getElem?_getD, List.getElem?_eq_getElem h]; rfl
theorem Vd.ge {a b : List Int} (V : Vd a b) {i : Nat} (h : i < a.length) : 0 ≤ ld a i ∧ ld a i ≤ 38400 := V.oa _ (ld_mem h)
theorem fit_part {a b l : List Int} (V : Vd a b) (G : Asg a b l) : ∀ k, k ≤ a.length → ∃ tk, fitK a b l k = some tk ∧ ∀ t : Nat, tk.getD t false = true → ∃ i, i < k ∧ 0 < ld a i ∧ l.getD i (-1) = (t : Int)
  | 0, _ => ⟨_, rfl, fun t h => by
      rw [List.getD_eq_getElem?_getD, List.getElem?_replicate] at h
      split at h <;> cases h⟩
  | k + 1, hk => by
    obtain ⟨tk, h1, h2⟩ := fit_part V G k (by omega)
    have hl : k < l.length := by rw [G.len]; omega
    by_cases h0 : ld a k = 0
    · exact ⟨tk, fitK_zero h1 h0 (by rw [← getD_z hl]; exact G.zero k (by omega) h0), fun t ht => by
        obtain ⟨i, i1, i2⟩ := h2 t ht
        exact ⟨i, by omega, i2⟩⟩
    · have hp : 0 < ld a k := by have := (V.ge (show k < a.length by omega)).1; omega
      obtain ⟨y, y1, y2, y3⟩ := G.fit k (by omega) hp
      have hfree : tk.getD y false = false := by
        cases hq : tk.getD y false with
        | false => rfl
        | true =>
          obtain ⟨i, i1, i2, i3⟩ := h2 y hq
          exact absurd (i3.trans y1.symm) (G.inj i k i1 (by omega) i2 hp)
      refine ⟨_, fitK_good h1 h0 (by rw [← getD_z hl]; exact y1) y2 (by omega) hfree, fun t ht => ?_⟩
      rw [getD_setB (by rw [fitK_len h1]; exact y2), Bool.or_eq_true] at ht
      rcases ht with ht | ht
      · have := of_decide_eq_true ht
        subst this
        exact ⟨k, by omega, hp, y1⟩
      · obtain ⟨i, i1, i2⟩ := h2 t ht
        exact ⟨i, by omega, i2⟩
theorem fit_asg {a b l : List Int} (V : Vd a b) (G : Asg a b l) : fitR a b l = true := by
  obtain ⟨tk, h, _⟩ := fit_part V G a.length (Nat.le_refl _)
  unfold fitR
  rw [V.val, G.len, h]; simp
theorem risK_of {r : List Int} (h : r.Pairwise (· < ·)) : risK r r.length = true := by
  unfold risK
  rw [List.all_eq_true]
  intro i hi
  have hi := List.mem_range.1 hi
  refine decide_eq_true ?_
  rcases Nat.eq_zero_or_pos i with h0 | h0
  · exact Or.inl h0
  · have := List.pairwise_iff_getElem.1 h (i - 1) i (by omega) hi (by omega)
    refine Or.inr ?_
    unfold ld
    rw [List.getD_eq_getElem?_getD, List.getElem?_eq_getElem (by omega : i - 1 < r.length), List.getD_eq_getElem?_getD, List.getElem?_eq_getElem hi]
    exact this
theorem leastK_ge {a r : List Int} {h : Int} (hh : h ≤ 38400) : ∀ k, (∀ i, i < k → h ≤ ld a (ld r i).toNat) → h ≤ leastK a r k
  | 0, _ => hh
  | k + 1, hk => by
    have ih := leastK_ge hh k (fun i hi => hk i (by omega))
    have h1 := hk k (by omega)
    show h ≤ min2 _ _
    unfold min2; split <;> omega
theorem leastK_le {a r : List Int} : ∀ k i, i < k → leastK a r k ≤ ld a (ld r i).toNat
  | 0, i, h => absurd h (Nat.not_lt_zero _)
  | k + 1, i, h => by
    show min2 _ _ ≤ _
    rcases Nat.lt_or_ge i k with g | g
    · have ih := leastK_le (a := a) (r := r) k i g
      unfold min2; split <;> omega
    · have : i = k := by omega
      subst this
      unfold min2; split <;> omega
theorem ref_at {a : List Int} {os : List Nat} {n i : Nat} (hi : i < (refN a os n).length) : ld (refL a os n) i = (((refN a os n)[i] : Nat) : Int) := by
  unfold refL ld toZ
  rw [List.getD_eq_getElem?_getD, List.getElem?_map, List.getElem?_eq_getElem hi]; rfl
theorem refL_len {a : List Int} {os : List Nat} (n : Nat) : (refL a os n).length = (refN a os n).length := by unfold refL; simp
theorem ref_stuck {a b : List Int} {os : List Nat} (V : Vd a b) (O : IsOrd a os) {n : Nat} (hn : n < os.length) (hc : cF b (ld a (os.getD n 0)) = n) : refR a b (refL a os n) = true ∧ (refL a os n).length = n + 1 := by
  have hlen : (refN a os n).length = n + 1 := by rw [(refN_perm O n).length_eq, List.length_take]; omega
  have hmem : ∀ i (hi : i < (refN a os n).length), (refN a os n)[i] < a.length ∧ 0 < ld a (refN a os n)[i] ∧ ld a (os.getD n 0) ≤ ld a (refN a os n)[i] := fun i hi => by
    have h1 := mem_refN.1 (List.getElem_mem hi)
    have h2 := O.mem.1 (List.mem_of_mem_take h1.2)
    refine ⟨h1.1, h2.2, ?_⟩
    obtain ⟨k, hk, e⟩ := List.getElem_of_mem h1.2
    rw [List.length_take] at hk
    rw [List.getElem_take] at e
    have e2 : os.getD k 0 = (refN a os n)[i] := by rw [getD_ge (by omega)]; exact e
    rw [← e2]
    rcases Nat.lt_or_ge k n with g | g
    · exact O.le g hn
    · have : k = n := by omega
      subst this; exact Int.le_refl _
  have hrl := refL_len (a := a) (os := os) n
  have hleast : leastK a (refL a os n) (n + 1) = ld a (os.getD n 0) := by
    have hx : os.getD n 0 ∈ refN a os n := mem_refN.2 ⟨(O.at_ hn).1, by
      rw [getD_ge hn]
      exact List.mem_take_iff_getElem.2 ⟨n, by omega, rfl⟩⟩
    obtain ⟨j, hj, e⟩ := List.getElem_of_mem hx
    refine Int.le_antisymm ?_ ?_
    · have := leastK_le (a := a) (r := refL a os n) (n + 1) j (by omega)
      rw [ref_at hj, Int.toNat_natCast, e] at this
      exact this
    · refine leastK_ge (V.ge (O.at_ hn).1).2 _ (fun i hi => ?_)
      rw [ref_at (by omega), Int.toNat_natCast]
      exact (hmem i (by omega)).2.2
  refine ⟨?_, by rw [hrl, hlen]⟩
  unfold refR
  rw [V.val, hrl, hlen, hleast, hc]
  have h1 : risK (refL a os n) (n + 1) = true := by
    rw [← hlen, ← hrl]
    refine risK_of ?_
    unfold refL toZ refN
    rw [List.pairwise_map]
    exact List.Pairwise.filter _ (List.pairwise_lt_range.imp fun h => by omega)
  have h2 : okK a (refL a os n) (n + 1) = true := by
    unfold okK
    rw [List.all_eq_true]
    intro i hi
    have hi := List.mem_range.1 hi
    unfold okx
    rw [ref_at (by omega), Int.toNat_natCast]
    have := hmem i (by omega)
    exact decide_eq_true ⟨by omega, by omega, by omega⟩
  rw [h1, h2]
  simp; omega
/-- Some number of loads has too few tracks. -/
def refdK (a b : List Int) (k : Nat) : Bool := (List.range k).any fun i => decide (0 < ld a i ∧ cF b (ld a i) < cF a (ld a i))
theorem refdK_succ (a b : List Int) (k : Nat) : refdK a b (k + 1) = (refdK a b k || decide (0 < ld a k ∧ cF b (ld a k) < cF a (ld a k))) := by unfold refdK; rw [List.range_succ, List.any_append]; simp
theorem refd_hall {a b : List Int} (h : Hall a b) : refdK a b a.length = false := by
  unfold refdK
  rw [List.any_eq_false]
  intro i _ hd
  have := of_decide_eq_true hd
  have := h _ this.1
  omega
theorem refdK_at {a b : List Int} {k i : Nat} (hi : i < k) (h : 0 < ld a i ∧ cF b (ld a i) < cF a (ld a i)) : refdK a b k = true := by
  unfold refdK
  rw [List.any_eq_true]
  exact ⟨i, List.mem_range.2 hi, decide_eq_true h⟩
/-- What Match's answer tells, if the lists are valid. -/
theorem mout_cases {a b : List Int} {os : List Nat} {l r : List Int} {e : Int} (V : Vd a b) (O : IsOrd a os) (h : MOut a b os l r e) :
    (e = 0 ∧ r = [] ∧ Asg a b l ∧ Hall a b) ∨ (e = 14 ∧ l = [] ∧ refR a b r = true ∧ refdK a b a.length = true ∧ ¬ Hall a b ∧ ∃ n, n < os.length ∧ r.length = n + 1 ∧ cF b (ld a (os.getD n 0)) = n) := by
  rcases h with ⟨h1, _⟩ | ⟨h1, ok, rfl, rfl, rfl⟩ | ⟨h1, n, hn, ok, bad, rfl, rfl, rfl⟩
  · exact absurd V.val h1
  · exact Or.inl ⟨rfl, rfl, asg_of O ok, hall_of O ok⟩
  · obtain ⟨s1, s2⟩ := stuck_of O hn ok bad
    obtain ⟨r1, r2⟩ := ref_stuck V O hn s1
    have hp := O.at_ hn
    refine Or.inr ⟨rfl, rfl, r1, refdK_at hp.1 ⟨hp.2, by omega⟩, fun H => ?_, n, hn, r2, s1⟩
    have := H _ hp.2
    omega
/-- The search through all assignments. -/
def posR (b : List Int) : List Int → List Bool → Bool
  | [], _ => true
  | x :: r, tk => if x = 0 then posR b r tk else (List.range b.length).any fun t => (!tk.getD t false && decide (x ≤ ld b t)) && posR b r (tk.set t true)
theorem posR_hall {b : List Int} : ∀ (r : List Int) (tk : List Bool), tk.length = b.length → (∀ z ∈ r, 0 ≤ z) → posR b r tk = true → ∀ h, 0 < h → r.countP (fun z => decide (h ≤ z)) ≤ (List.range b.length).countP fun t => !tk.getD t false && decide (h ≤ ld b t)
  | [], tk, _, _, _, h, _ => by simp
  | x :: r, tk, hl, hz, hp, h, hh => by
    unfold posR at hp
    have hz' : ∀ z ∈ r, 0 ≤ z := fun z hz1 => hz z (by simp [hz1])
    by_cases h0 : x = 0
    · rw [if_pos h0] at hp
      have ih := posR_hall r tk hl hz' hp h hh
      rw [List.countP_cons, if_neg (by rw [decide_eq_false (by omega)]; exact Bool.false_ne_true)]
      exact ih
    · rw [if_neg h0, List.any_eq_true] at hp
      obtain ⟨t, ht, hp⟩ := hp
      have ht := List.mem_range.1 ht
      rw [Bool.and_eq_true, Bool.and_eq_true] at hp
      obtain ⟨⟨p1, p2⟩, p3⟩ := hp
      have p1 : tk.getD t false = false := by simpa using p1
      have p2 := of_decide_eq_true p2
      have ih := posR_hall r (tk.set t true) (by simpa using hl) hz' p3 h hh
      have e1 : ∀ s, (tk.set t true).getD s false = (decide (s = t) || tk.getD s false) := fun s => getD_setB (by rw [hl]; exact ht)
      by_cases hx : h ≤ x
      · have hu := countP_upd (p := fun s => !(tk.set t true).getD s false && decide (h ≤ ld b s)) (q := fun s => !tk.getD s false && decide (h ≤ ld b s)) ht (by rw [e1]; simp) (by rw [p1, decide_eq_true (by omega)]; rfl) (fun s hs => by rw [e1, decide_eq_false hs, Bool.false_or])
        rw [List.countP_cons, if_pos (decide_eq_true hx), hu]
        omega
      · rw [List.countP_cons, if_neg (by rw [decide_eq_false hx]; exact Bool.false_ne_true)]
        refine Nat.le_trans ih (List.countP_mono_left fun s _ hs => ?_)
        rw [Bool.and_eq_true] at hs ⊢
        refine ⟨?_, hs.2⟩
        have := hs.1
        rw [e1] at this
        cases hq : tk.getD s false with
        | false => rfl
        | true => rw [hq, Bool.or_true] at this; cases this
theorem pos_hall {a b : List Int} (V : Vd a b) (h : posR b a (List.replicate b.length false) = true) : Hall a b := fun x hx => by
  have := posR_hall a _ (by simp) (fun z hz => (V.oa z hz).1) h x hx
  rw [cF_list]
  refine Nat.le_trans this (List.countP_mono_left fun t _ ht => ?_)
  rw [Bool.and_eq_true] at ht
  exact ht.2
theorem drop_ld {a : List Int} {i : Nat} (h : i < a.length) : a.drop i = ld a i :: a.drop (i + 1) := by
  rw [List.drop_eq_getElem_cons h]
  unfold ld
  rw [List.getD_eq_getElem?_getD, List.getElem?_eq_getElem h]; rfl
theorem asg_pos {a b l : List Int} (V : Vd a b) (G : Asg a b l) : ∀ (n i : Nat) (tk : List Bool), a.length - i = n → tk.length = b.length → (∀ t : Nat, tk.getD t false = true → ∃ j, j < i ∧ 0 < ld a j ∧ l.getD j (-1) = (t : Int)) → posR b (a.drop i) tk = true
  | 0, i, tk, hn, _, _ => by
    rw [List.drop_eq_nil_of_le (by omega)]; rfl
  | n + 1, i, tk, hn, hl, ht => by
    have hi : i < a.length := by omega
    rw [drop_ld hi]
    unfold posR
    by_cases h0 : ld a i = 0
    · rw [if_pos h0]
      exact asg_pos V G n (i + 1) tk (by omega) hl (fun t h => by
        obtain ⟨j, j1, j2⟩ := ht t h
        exact ⟨j, by omega, j2⟩)
    · rw [if_neg h0, List.any_eq_true]
      have hp : 0 < ld a i := by have := (V.ge hi).1; omega
      obtain ⟨y, y1, y2, y3⟩ := G.fit i hi hp
      have hfree : tk.getD y false = false := by
        cases hq : tk.getD y false with
        | false => rfl
        | true =>
          obtain ⟨j, j1, j2, j3⟩ := ht y hq
          exact absurd (j3.trans y1.symm) (G.inj j i j1 hi j2 hp)
      refine ⟨y, List.mem_range.2 y2, ?_⟩
      rw [hfree, decide_eq_true y3]
      refine (Bool.true_and _).trans ?_
      refine asg_pos V G n (i + 1) (tk.set y true) (by omega) (by simpa using hl) (fun t h => ?_)
      rw [getD_setB (by rw [hl]; exact y2), Bool.or_eq_true] at h
      rcases h with h | h
      · have := of_decide_eq_true h
        subst this
        exact ⟨i, by omega, hp, y1⟩
      · obtain ⟨j, j1, j2⟩ := ht t h
        exact ⟨j, by omega, j2⟩
/-- The search finds one exactly if Match does. -/
theorem mout_pos {a b : List Int} {os : List Nat} {l r : List Int} {e : Int} (V : Vd a b) (O : IsOrd a os) (h : MOut a b os l r e) : (e == 0) = posR b a (List.replicate b.length false) := by
  rcases mout_cases V O h with ⟨rfl, _, G, _⟩ | ⟨rfl, _, _, _, H, _⟩
  · have := asg_pos V G a.length 0 (List.replicate b.length false) (by omega) (by simp) (fun t ht => by
      rw [List.getD_eq_getElem?_getD, List.getElem?_replicate] at ht
      split at ht <;> cases ht)
    rw [List.drop_zero] at this
    rw [this]; rfl
  · cases hq : posR b a (List.replicate b.length false) with
    | false => rfl
    | true => exact absurd (pos_hall V hq) H
/-- Longer tracks, more tracks, shorter loads. -/
theorem hall_mono {a b c d : List Int} (hac : c.length = a.length) (hca : ∀ i, i < a.length → ld c i ≤ ld a i) (hbd : b.length ≤ d.length) (hdb : ∀ i, i < b.length → ld b i ≤ ld d i) (H : Hall a b) : Hall c d := fun h hh => by
  have h1 : cF c h ≤ cF a h := by
    unfold cF
    rw [hac]
    exact List.countP_mono_left fun t ht hd => by
      have := hca t (List.mem_range.1 ht)
      have := of_decide_eq_true hd
      exact decide_eq_true (by omega)
  have h2 : cF b h ≤ cF d h := by
    unfold cF
    obtain ⟨k, hk⟩ : ∃ k, d.length = b.length + k := ⟨d.length - b.length, by omega⟩
    rw [hk, List.range_add, List.countP_append]
    refine Nat.le_trans (List.countP_mono_left fun t ht hd => ?_) (Nat.le_add_right _ _)
    have := hdb t (List.mem_range.1 ht)
    have := of_decide_eq_true hd
    exact decide_eq_true (by omega)
  have := H h hh
  omega
/-- The examples. -/
theorem ord_ex1 : IsOrd [5, 9, 0] [1, 0] := ⟨by decide, by unfold Rk; decide⟩
theorem ord_ex2 : IsOrd [7, 8] [1, 0] := ⟨by decide, by unfold Rk; decide⟩
theorem mout_ex1 : MOut [5, 9, 0] [10, 6, 9] [1, 0] [1, 2, -1] [] 0 := Or.inr (Or.inl ⟨by decide, by unfold OkTo; decide, by decide, rfl, rfl⟩)
theorem mout_ex2 : MOut [7, 8] [9, 6] [1, 0] [] [0, 1] 14 := Or.inr (Or.inr ⟨by decide, 1, by decide, by unfold OkTo; decide, by decide, rfl, by decide, rfl⟩)
theorem ex1 {os : List Nat} {l r : List Int} {e : Int} (O : IsOrd [5, 9, 0] os) (h : MOut [5, 9, 0] [10, 6, 9] os l r e) : l = [1, 2, -1] ∧ r = [] ∧ e = 0 := by
  obtain rfl := O.uniq ord_ex1
  exact h.uniq mout_ex1
theorem ex2 {os : List Nat} {l r : List Int} {e : Int} (O : IsOrd [7, 8] os) (h : MOut [7, 8] [9, 6] os l r e) : l = [] ∧ r = [0, 1] ∧ e = 14 := by
  obtain rfl := O.uniq ord_ex2
  exact h.uniq mout_ex2
theorem ex3 : refR [7, 8] [9, 6] [0, 1] = true := by decide
theorem ex4 : fitR [5, 9, 0] [10, 6, 9] [0, 2, -1] = true := by decide
end Go.Proofs.Ytknkgcphamhjlaa
