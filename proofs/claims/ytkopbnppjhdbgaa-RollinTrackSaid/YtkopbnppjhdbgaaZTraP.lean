/-
  Stage 14: how often each item is seen on the tracks.
-/
import Derived.Test.YtkopbnppjhdbgaaZB
set_option linter.unusedSimpArgs false
set_option linter.unusedVariables false
namespace Go.Proofs.Ytkopbnppjhdbgaa
open Go.RowKit Go.Lib

/-- What was seen of n items. -/
def seenN (n : Nat) (q : List Nat) : List Nat := q.foldl (addL 1) (List.replicate n 0)
theorem seenN_nil (n : Nat) : seenN n [] = List.replicate n 0 := rfl
theorem seenN_len (n : Nat) (q : List Nat) : (seenN n q).length = n := by unfold seenN; rw [foldL_len, List.length_replicate]
theorem seenN_add (n : Nat) (q : List Nat) (x : Nat) : addAt (seenN n q) x 1 = seenN n (q ++ [x]) := by
  unfold seenN; rw [List.foldl_append]; rfl
theorem foldL_at (x : Nat) : ∀ (q : List Nat) (ls : List Nat), x < ls.length → (q.foldl (addL 1) ls).getD x 0 = ls.getD x 0 + q.count x := by
  intro q
  induction q with
  | nil => intro ls _; rfl
  | cons y q ih =>
    intro ls h
    rw [List.foldl_cons, ih (addL 1 ls y) (by unfold addL; rw [addAt_len]; exact h), List.count_cons]
    unfold addL addAt
    by_cases e : y < ls.length
    · rw [getD_setN e]
      by_cases g : y = x
      · subst g; rw [if_pos rfl, if_pos (by simp)]; omega
      · rw [if_neg g, if_neg (by simp [g])]; omega
    · have hne : y ≠ x := by omega
      rw [List.set_eq_of_length_le (by omega), if_neg (by simp [hne])]
      omega
theorem seenN_at {n x : Nat} (h : x < n) (q : List Nat) : (seenN n q).getD x 0 = q.count x := by
  unfold seenN
  rw [foldL_at x q _ (by rw [List.length_replicate]; exact h), List.getD_eq_getElem?_getD, List.getElem?_replicate, if_pos h]
  simp
theorem take_succG {α : Type} {q : List α} {d : α} {j : Nat} (h : j < q.length) : q.take (j + 1) = q.take j ++ [q.getD j d] := by
  rw [List.take_succ_eq_append_getElem h, List.getD_eq_getElem?_getD, List.getElem?_eq_getElem h]; rfl
theorem at_split {α : Type} {q : List α} {d : α} {j : Nat} (h : j < q.length) : q = q.take j ++ q.getD j d :: q.drop (j + 1) := by
  have e : q.drop j = q.getD j d :: q.drop (j + 1) := by
    rw [List.drop_eq_getElem_cons h, List.getD_eq_getElem?_getD, List.getElem?_eq_getElem h]; rfl
  rw [← e, List.take_append_drop]
/-- What was seen before the list j of the lists k. -/
def befN (uu : List (List (List Nat))) (k j : Nat) : List Nat := ((uu.take k).flatten ++ (uu.getD k []).take j).flatten
theorem befN_zero (uu : List (List (List Nat))) (k : Nat) : befN uu k 0 = (uu.take k).flatten.flatten := by unfold befN; rw [List.take_zero, List.append_nil]
theorem befN_succ {uu : List (List (List Nat))} {k j : Nat} (h : j < (uu.getD k []).length) : befN uu k (j + 1) = befN uu k j ++ (uu.getD k []).getD j [] := by
  unfold befN
  rw [take_succG (d := []) h]
  simp only [List.flatten_append, List.flatten_cons, List.flatten_nil, List.append_nil, List.append_assoc]
theorem befN_next {uu : List (List (List Nat))} {k : Nat} (h : k < uu.length) : (uu.take (k + 1)).flatten.flatten = befN uu k (uu.getD k []).length := by
  unfold befN
  rw [take_succG (d := []) h, List.take_length]
  simp only [List.flatten_append, List.flatten_cons, List.flatten_nil, List.append_nil]
theorem befN_pre {uu : List (List (List Nat))} {k j i : Nat} (hk : k < uu.length) (hj : j < (uu.getD k []).length) : ∃ r, (befN uu k j ++ ((uu.getD k []).getD j []).take i) ++ r = uu.flatten.flatten := by
  refine ⟨((uu.getD k []).getD j []).drop i ++ (((uu.getD k []).drop (j + 1)).flatten ++ (uu.drop (k + 1)).flatten.flatten), ?_⟩
  have e1 := at_split (d := []) hk
  have e2 := at_split (d := []) hj
  unfold befN
  obtain ⟨us, hus⟩ : ∃ us, us = uu.getD k [] := ⟨_, rfl⟩
  rw [← hus] at e1 e2 ⊢
  obtain ⟨Q, hQ⟩ : ∃ Q, Q = us.getD j [] := ⟨_, rfl⟩
  rw [← hQ] at e2 ⊢
  have e3 := List.take_append_drop i Q
  have e4 : uu.flatten.flatten = ((uu.take k).flatten).flatten ++ (us.flatten ++ (uu.drop (k + 1)).flatten.flatten) := by
    conv => lhs; rw [e1]
    rw [List.flatten_append, List.flatten_append, List.flatten_cons, List.flatten_append]
  have e5 : us.flatten = (us.take j).flatten ++ (Q ++ (us.drop (j + 1)).flatten) := by
    conv => lhs; rw [e2]
    rw [List.flatten_append, List.flatten_cons]
  rw [e4, e5]
  conv => rhs; rw [← e3]
  rw [List.flatten_append]
  simp only [List.append_assoc]
/-- Of what is seen behind the time t, each item pushed is there once. -/
theorem tra_cnt {S L T t x : Nat} {cd rd tn : Nat → Nat} (h : FitN S L T cd rd tn) (ht : t ≤ S) : ([mS S L cd rd (t + 1), mT S L T cd rd tn (t + 1)] : List (List (List Nat))).flatten.flatten.count x = if x < L ∧ rd x < t + 1 then 1 else 0 := by
  rw [← cnt_all h (n := t + 1) (by omega) x]
  simp [List.flatten_cons, List.flatten_append, List.count_append]
theorem tra_in {S L T t x : Nat} {cd rd tn : Nat → Nat} (h : FitN S L T cd rd tn) (ht : t ≤ S) {q r : List Nat} (e : (q ++ [x]) ++ r = ([mS S L cd rd (t + 1), mT S L T cd rd tn (t + 1)] : List (List (List Nat))).flatten.flatten) : x < L ∧ q.count x = 0 := by
  have hc := tra_cnt h ht (x := x)
  rw [← e, List.count_append, List.count_append] at hc
  have h1 : [x].count x = 1 := by simp
  rw [h1] at hc
  split at hc
  · rename_i g; exact ⟨g.1, by omega⟩
  · omega
/-- A list in which each number below L stands at most once, and no other, is no longer than L. -/
theorem tot_le {q : List Nat} {L : Nat} {P : Nat → Prop} [DecidablePred P] (h : ∀ x, q.count x = if x < L ∧ P x then 1 else 0) : q.length ≤ L := by
  have hn : q.Nodup := List.nodup_iff_count.2 fun x => by rw [h x]; split <;> omega
  have hs : q ⊆ List.range L := fun x hx => by
    have := List.count_pos_iff.2 hx
    rw [h x] at this
    split at this
    · rename_i g; exact List.mem_range.2 g.1
    · omega
  have := hn.length_le_of_subset hs
  rwa [List.length_range] at this
end Go.Proofs.Ytkopbnppjhdbgaa
