/-
  Stage 4, plain: a lost value costs its group, and nothing else; how long a message is.
-/
import Derived.Test.YtbpgbdnfoofnaaaDoorDMath
set_option linter.unusedSimpArgs false
set_option linter.unusedVariables false
namespace Go.Proofs.YtbpgbdnfoofnaaaDoor

theorem pass_cons (a : Int) (v : List Int) : pass (a :: v) = if mark a = true then 0 else pass v + 1 := rfl
theorem pass_app (u v : List Int) (h : ∀ a ∈ u, mark a = false) : pass (u ++ v) = u.length + pass v := by
  induction u with
  | nil => simp
  | cons a u ih =>
    rw [List.cons_append, pass_cons, h a (List.mem_cons_self ..), if_neg (by decide), ih (fun b hb => h b (List.mem_cons_of_mem _ hb)), List.length_cons]; omega
theorem pass_values {l : List Pul} : pass (valuesR l) = 0 := by
  by_cases h : l = []
  · subst h; rfl
  · have hb := glen_bd h
    rw [values_step h]
    unfold hd
    simp only [List.cons_append]
    rw [pass_cons, if_pos (show mark (1536 + (glen l : Int)) = true from decide_eq_true (by omega))]
theorem pv_mem (t : Int) (l : List Pul) (h : gap1 t l) : ∀ a ∈ pv t l, 0 ≤ a ∧ a ≤ 1087 := by
  induction l generalizing t with
  | nil => intro a ha; cases ha
  | cons p l ih =>
    obtain ⟨ok, ht, hl⟩ := h
    unfold okP at ok
    unfold pv
    intro a ha
    simp only [List.mem_cons] at ha
    rcases ha with rfl | rfl | ha
    · split <;> omega
    · omega
    · exact ih _ hl a ha
theorem rdP_none (t : Int) (l : List Pul) (h : gap1 t l) (rest : List Int) (j : Nat) (hj : j < 2 * l.length) : rdP t l.length ((pv t l ++ rest).set j (-1)) = none := by
  induction l generalizing t j with
  | nil => simp at hj
  | cons p l ih =>
    obtain ⟨ok, ht, hl⟩ := h
    rw [List.length_cons] at hj ⊢
    unfold pv
    simp only [List.cons_append]
    match j with
    | 0 =>
      rw [List.set_cons_zero]
      unfold rdP
      rw [if_neg (by omega)]
    | 1 =>
      rw [List.set_cons_succ, List.set_cons_zero]
      unfold rdP
      rw [if_neg (by omega)]
    | j + 2 =>
      rw [List.set_cons_succ, List.set_cons_succ]
      unfold rdP
      rw [show t + (p.2.1 - t) = p.2.1 by omega, ih p.2.1 hl j (by omega)]
      simp only [Option.map_none, ite_self]
/-- The first group's values, and what stands behind them. -/
theorem first_group {l : List Pul} {t : Int} (h : run t l) (hl : l ≠ []) : ∃ u : List Int, valuesR l = u ++ valuesR (l.drop (glen l)) ∧ u.length = 4 + 2 * glen l ∧ (∃ r, u = (1536 + (glen l : Int)) :: r ∧ ∀ a ∈ r, 0 ≤ a ∧ a ≤ 1087) ∧
    (∀ rest, grp (u ++ rest) = some (l.take (glen l), 4 + 2 * glen l)) ∧ ∀ rest j, j < 4 + 2 * glen l → grp ((u ++ rest).set j (-1)) = none := by
  have hb := glen_bd hl
  refine ⟨hd (glen l) (tim l) ++ pv (tim l) (l.take (glen l)), values_step hl, by rw [List.length_append, pv_len, List.length_take]; simp [hd]; omega, ?_, fun rest => grp_hd h hl rest, ?_⟩
  all_goals
    have hg : gap1 (tim l) (l.take (glen l)) ∧ okP (l.headD (0, 0, 1)) ∧ tim l = (l.headD (0, 0, 1)).2.1 := by
      cases l with
      | nil => exact absurd rfl hl
      | cons p l =>
        obtain ⟨h1, h2, h3⟩ := h
        refine ⟨?_, h1, rfl⟩
        show gap1 p.2.1 ((p :: l).take (1 + more p.2.1 7 l))
        rw [Nat.add_comm, List.take_succ_cons]
        unfold okP at h1
        exact ⟨h1, ⟨Int.le_refl _, by omega⟩, gap1_more _ _ _ h3⟩
    obtain ⟨g1, g2, g3⟩ := hg
    have b1 := g2.2.1
    rw [← g3] at b1
  · refine ⟨_, rfl, fun a ha => ?_⟩
    have ha' : a ∈ [tim l / 1048576, tim l / 1024 % 1024, tim l % 1024] ++ pv (tim l) (l.take (glen l)) := ha
    rw [List.mem_append] at ha'
    rcases ha' with ha' | ha'
    · simp only [List.mem_cons, List.not_mem_nil, or_false] at ha'
      rcases ha' with rfl | rfl | rfl <;> omega
    · exact pv_mem _ _ g1 a ha'
  · intro rest j hj
    unfold hd
    simp only [List.cons_append, List.nil_append]
    have hlen : (l.take (glen l)).length = glen l := by rw [List.length_take]; omega
    match j with
    | 0 => rw [List.set_cons_zero, grp_cons, if_neg (fun h => by have := h.1; revert this; decide)]
    | 1 => rw [List.set_cons_succ, List.set_cons_zero, grp_cons, if_neg (fun h => by have := h.2.1; revert this; decide)]
    | 2 => rw [List.set_cons_succ, List.set_cons_succ, List.set_cons_zero, grp_cons, if_neg (fun h => by have := h.2.2.1; revert this; decide)]
    | 3 => rw [List.set_cons_succ, List.set_cons_succ, List.set_cons_succ, List.set_cons_zero, grp_cons, if_neg (fun h => by have := h.2.2.2; revert this; decide)]
    | j + 4 =>
      rw [List.set_cons_succ, List.set_cons_succ, List.set_cons_succ, List.set_cons_succ, grp_cons]
      rw [show tim l / 1048576 * 1048576 + tim l / 1024 % 1024 * 1024 + tim l % 1024 = tim l by omega, show (1536 + (glen l : Int) - 1536).toNat = glen l by omega]
      have := rdP_none (tim l) (l.take (glen l)) g1 rest j (by omega)
      rw [hlen] at this
      rw [this]
      simp only [Option.map_none, ite_self]
/-- A value of the first group is lost. -/
theorem loss_first {l : List Pul} {t : Int} (h : run t l) (hl : l ≠ []) (j : Nat) (hj : j < 4 + 2 * glen l) (i : Nat) :
    decV ((valuesR l).set j (-1)) i = (l.drop (glen l), [((i : Int), (i : Int) + 3 + 2 * glen l)]) := by
  have hb := glen_bd hl
  obtain ⟨u, e1, e2, ⟨r, e3, e4⟩, _, e6⟩ := first_group h hl
  obtain ⟨w, hw⟩ := run_drop t l h (glen l) (by omega)
  have hn := e6 (valuesR (l.drop (glen l))) j hj
  rw [← e1] at hn
  have hne : (valuesR l).set j (-1) ≠ [] := by
    intro e
    have := congrArg List.length e
    rw [List.length_set, e1, List.length_append, e2] at this
    simp at this
  have hs : (valuesR l).set j (-1) = u.set j (-1) ++ valuesR (l.drop (glen l)) := by rw [e1, List.set_append, if_pos (by omega)]
  have hp : pass ((valuesR l).set j (-1)).tail = 3 + 2 * glen l := by
    rw [hs, e3]
    have hm : ∀ a ∈ r, mark a = false := fun a ha => decide_eq_false (by have := e4 a ha; omega)
    have hr : r.length = 3 + 2 * glen l := by rw [e3, List.length_cons] at e2; omega
    cases j with
    | zero => rw [List.set_cons_zero, List.cons_append, List.tail_cons, pass_app _ _ hm, pass_values, hr, Nat.add_zero]
    | succ j =>
      have hm' : ∀ a ∈ r.set j (-1), mark a = false := fun a ha => by
        rcases List.mem_or_eq_of_mem_set ha with g | rfl
        · exact hm a g
        · decide
      rw [List.set_cons_succ, List.cons_append, List.tail_cons, pass_app _ _ hm', pass_values, List.length_set, hr, Nat.add_zero]
  have hd' : ((valuesR l).set j (-1)).drop (1 + (3 + 2 * glen l)) = valuesR (l.drop (glen l)) := by
    rw [hs, show 1 + (3 + 2 * glen l) = (u.set j (-1)).length by rw [List.length_set, e2]; omega, List.drop_left]
  rw [decV_none hne hn, hp, hd']
  have hv := decV_values (l.drop (glen l)).length (l.drop (glen l)) (Nat.le_refl _) w hw [] (i + (1 + (3 + 2 * glen l)))
  rw [List.append_nil] at hv
  rw [hv, decV_nil]
  simp only [List.append_nil]
  congr 2
  simp; omega
/-- From whatever group on. -/
theorem loss_at {l l1 l2 : List Pul} {t : Int} (h2 : run t l2) (hl : l2 ≠ []) (A : List Int) (i : Nat) (hA : ∀ rest i, decV (A ++ rest) i = (l1 ++ (decV rest (i + A.length)).1, (decV rest (i + A.length)).2)) (j : Nat) (hj1 : A.length ≤ j) (hj2 : j < A.length + 4 + 2 * glen l2) :
    decV ((A ++ valuesR l2).set j (-1)) i = (l1 ++ l2.drop (glen l2), [(((i + A.length : Nat) : Int), ((i + A.length : Nat) : Int) + 3 + 2 * glen l2)]) := by
  rw [List.set_append, if_neg (by omega), hA, loss_first h2 hl (j - A.length) (by omega)]
/-- The lengths of messages. -/
theorem values_len (m : Nat) (l : List Pul) (hm : l.length ≤ m) : (valuesR l).length ≤ 6 * l.length ∧ 2 * l.length + 4 * ((l.length + 7) / 8) ≤ (valuesR l).length := by
  induction m generalizing l with
  | zero =>
    have : l = [] := List.length_eq_zero_iff.1 (by omega)
    subst this
    exact ⟨Nat.le_refl _, Nat.le_refl _⟩
  | succ m ih =>
    by_cases hl : l = []
    · subst hl; exact ⟨Nat.le_refl _, Nat.le_refl _⟩
    · have hb := glen_bd hl
      have := ih (l.drop (glen l)) (by rw [List.length_drop]; omega)
      rw [List.length_drop] at this
      have e : (valuesR l).length = 4 + 2 * glen l + (valuesR (l.drop (glen l))).length := by
        rw [values_step hl, List.length_append, List.length_append, pv_len, List.length_take]; simp [hd]; omega
      omega
end Go.Proofs.YtbpgbdnfoofnaaaDoor
