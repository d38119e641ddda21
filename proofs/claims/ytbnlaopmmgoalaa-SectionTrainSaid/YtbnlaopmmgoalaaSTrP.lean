/-
  Stage 5, plain: a train that passes a chain of sections.
-/
import Derived.Test.YtbnlaopmmgoalaaSThrW
set_option linter.unusedSimpArgs false
set_option linter.unusedVariables false
namespace Go.Proofs.Ytbnlaopmmgoalaa
open Go.RowKit

/-- How many axles are in section s: so many stand behind s + 1 detectors. -/
def cA (s : Int) : List Int → Int
  | [] => 0
  | z :: zs => (if z = s + 1 then 1 else 0) + cA s zs
def tot : List Int → Int
  | [] => 0
  | z :: zs => z + tot zs
theorem cA_app (s : Int) (a b : List Int) : cA s (a ++ b) = cA s a + cA s b := by
  induction a with
  | nil => show _ = 0 + _; rw [Int.zero_add]; rfl
  | cons z a ih => show (_ : Int) + cA s (a ++ b) = _ + cA s a + _; rw [ih, Int.add_assoc]
theorem cA_nn (s : Int) (a : List Int) : 0 ≤ cA s a ∧ cA s a ≤ a.length := by
  induction a with
  | nil => exact ⟨Int.le_refl _, by show (0 : Int) ≤ ((0 : Nat) : Int); omega⟩
  | cons z a ih =>
    show 0 ≤ (if z = s + 1 then 1 else 0) + cA s a ∧ (if z = s + 1 then 1 else 0) + cA s a ≤ ((a.length + 1 : Nat) : Int)
    split <;> omega
theorem set_split {zs : List Int} {i : Nat} (h : i < zs.length) (x : Int) : zs = zs.take i ++ zs.getD i 0 :: zs.drop (i + 1) ∧ zs.set i x = zs.take i ++ x :: zs.drop (i + 1) := by
  constructor
  · rw [List.getD_eq_getElem?_getD, List.getElem?_eq_getElem h, Option.getD_some]
    rw [← List.drop_eq_getElem_cons h, List.take_append_drop]
  · exact List.set_eq_take_append_cons_drop .. |>.trans (if_pos h)
theorem tot_app (a b : List Int) : tot (a ++ b) = tot a + tot b := by
  induction a with
  | nil => show _ = 0 + _; rw [Int.zero_add]; rfl
  | cons z a ih => show z + tot (a ++ b) = z + tot a + _; rw [ih, Int.add_assoc]
theorem tot_set {zs : List Int} {i : Nat} (h : i < zs.length) : tot (zs.set i (zs.getD i 0 + 1)) = tot zs + 1 := by
  obtain ⟨e1, e2⟩ := set_split h (zs.getD i 0 + 1)
  rw [e2]
  have e3 : tot zs = tot (zs.take i ++ zs.getD i 0 :: zs.drop (i + 1)) := by rw [← e1]
  rw [e3, tot_app, tot_app]
  show _ + ((zs.getD i 0 + 1) + _) = _ + (zs.getD i 0 + _) + 1
  omega
theorem cA_set {zs : List Int} {i : Nat} (h : i < zs.length) (s : Int) : cA s (zs.set i (zs.getD i 0 + 1)) = cA s zs + ((if zs.getD i 0 = s then 1 else 0) - (if zs.getD i 0 = s + 1 then 1 else 0)) := by
  obtain ⟨e1, e2⟩ := set_split h (zs.getD i 0 + 1)
  rw [e2]
  have e3 : cA s zs = cA s (zs.take i ++ zs.getD i 0 :: zs.drop (i + 1)) := by rw [← e1]
  rw [e3, cA_app, cA_app]
  show _ + ((if zs.getD i 0 + 1 = s + 1 then 1 else 0) + _) = _ + ((if zs.getD i 0 = s + 1 then 1 else 0) + _) + _
  repeat' split
  all_goals omega
/-- All axles are within the chain, none overtakes. -/
def Trn (n : Nat) (zs : List Int) : Prop := (∀ i, i < zs.length → 0 ≤ zs.getD i 0 ∧ zs.getD i 0 ≤ n + 1) ∧ ∀ i, i + 1 < zs.length → zs.getD (i + 1) 0 ≤ zs.getD i 0
theorem getD_set (zs : List Int) (i j : Nat) (x : Int) (hi : i < zs.length) : (zs.set i x).getD j 0 = if i = j then x else zs.getD j 0 := by
  rw [List.getD_eq_getElem?_getD, List.getElem?_set]
  by_cases e : i = j
  · subst e; rw [if_pos rfl, if_pos rfl, if_pos hi]; rfl
  · rw [if_neg e, if_neg e, List.getD_eq_getElem?_getD]
theorem Trn.step {n : Nat} {zs : List Int} (h : Trn n zs) {i : Nat} (hi : i < zs.length) (h1 : zs.getD i 0 ≤ n) (h2 : ∀ k, i = k + 1 → zs.getD i 0 < zs.getD k 0) : Trn n (zs.set i (zs.getD i 0 + 1)) := by
  refine ⟨fun j hj => ?_, fun j hj => ?_⟩
  · rw [List.length_set] at hj
    rw [getD_set _ _ _ _ hi]
    have := h.1 j hj
    have := h.1 i hi
    split <;> omega
  · rw [List.length_set] at hj
    rw [getD_set _ _ _ _ hi, getD_set _ _ _ _ hi]
    have := h.2 j hj
    by_cases e1 : i = j + 1
    · subst e1
      have := h2 j rfl
      rw [if_pos rfl, if_neg (by omega)]; omega
    · rw [if_neg e1]
      by_cases e2 : i = j
      · subst e2; rw [if_pos rfl]; omega
      · rw [if_neg e2]; omega
theorem tot_full {n : Nat} {zs : List Int} (h : ∀ i, i < zs.length → (n : Int) + 1 ≤ zs.getD i 0) : (zs.length : Int) * (n + 1) ≤ tot zs := by
  induction zs with
  | nil => show ((0 : Nat) : Int) * _ ≤ 0; simp
  | cons z zs ih =>
    have h0 := h 0 (by simp)
    have := ih fun i hi => by have := h (i + 1) (by simp; omega); simpa using this
    show ((zs.length + 1 : Nat) : Int) * (n + 1) ≤ z + tot zs
    have e : ((zs.length + 1 : Nat) : Int) * ((n : Int) + 1) = (zs.length : Int) * (n + 1) + (n + 1) := by
      rw [Int.natCast_add, Int.add_mul]; omega
    rw [e]
    have h0' : (n : Int) + 1 ≤ z := by simpa using h0
    omega
/-- While not all are through, an axle may go on. -/
theorem Trn.free {n : Nat} {zs : List Int} (h : Trn n zs) (ht : tot zs < (zs.length : Int) * (n + 1)) : ∃ j, j < zs.length ∧ zs.getD j 0 ≤ n ∧ ∀ k, j = k + 1 → zs.getD j 0 < zs.getD k 0 := by
  have hex : ∃ j, j < zs.length ∧ zs.getD j 0 ≤ n := by
    refine Classical.byContradiction fun hn => ?_
    have := tot_full (n := n) (zs := zs) fun i hi => by
      refine Classical.byContradiction fun g => hn ⟨i, hi, by omega⟩
    omega
  have key : ∀ j, j < zs.length → zs.getD j 0 ≤ n → ∃ j, j < zs.length ∧ zs.getD j 0 ≤ n ∧ ∀ k, j = k + 1 → zs.getD j 0 < zs.getD k 0 := by
    intro j
    induction j with
    | zero => intro h1 h2; exact ⟨0, h1, h2, fun k hk => by omega⟩
    | succ j ih =>
      intro h1 h2
      by_cases g : zs.getD j 0 ≤ n
      · exact ih (by omega) g
      · exact ⟨j + 1, h1, h2, fun k hk => by obtain rfl : j = k := by omega
                                             omega⟩
  obtain ⟨j, h1, h2⟩ := hex
  exact key j h1 h2
/-- The senses of a chain. -/
theorem sen_chain (n : Nat) (s : Nat) (d : Int) (h : s < n) : sen (chn n) s d = if d = s then some 1 else if d = (s : Int) + 1 then some (-1) else none := by
  induction n with
  | zero => omega
  | succ n ih =>
    show sen (chn n ++ [((n : Int), (n : Int), 1), ((n : Int), (n : Int) + 1, -1)]) s d = _
    have e0 : sen [((n : Int), (n : Int), 1), ((n : Int), (n : Int) + 1, -1)] s d = (if (n : Int) = s ∧ (n : Int) = d then some 1 else if (n : Int) = s ∧ (n : Int) + 1 = d then some (-1) else none) := rfl
    have ea : ∀ (a b : List Pul), sen (a ++ b) s d = match sen a s d with | some z => some z | none => sen b s d := by
      intro a b
      induction a with
      | nil => rfl
      | cons x a ia =>
        show (if x.1 = s ∧ x.2.1 = d then some x.2.2 else sen (a ++ b) s d) = match (if x.1 = s ∧ x.2.1 = d then some x.2.2 else sen a s d) with | some z => some z | none => sen b s d
        by_cases g : x.1 = s ∧ x.2.1 = d
        · rw [if_pos g, if_pos g]
        · rw [if_neg g, if_neg g]; exact ia
    rw [ea, e0]
    by_cases g : s < n
    · rw [ih g]
      by_cases g1 : d = s
      · rw [if_pos g1]
      · rw [if_neg g1]
        by_cases g2 : d = (s : Int) + 1
        · rw [if_pos g2]
        · rw [if_neg g2, if_neg (by omega), if_neg (by omega)]
    · obtain rfl : s = n := by omega
      rw [sen_chn s s d (Int.le_refl _)]
      by_cases g1 : d = s
      · rw [if_pos g1, if_pos ⟨rfl, g1.symm⟩]
      · rw [if_neg g1, if_neg (by omega)]
        by_cases g2 : d = (s : Int) + 1
        · rw [if_pos g2, if_pos ⟨rfl, g2.symm⟩]
        · rw [if_neg g2, if_neg (by omega)]
theorem effT_chain {n s : Nat} (h : s < n) (d t : Int) (ht : 0 ≤ t) : effT (chn n) s (-1) (d, t, 1) = (if d = s then 1 else 0) - (if d = (s : Int) + 1 then 1 else 0) := by
  unfold effT eff
  simp only [sen_chain n s d h]
  rw [if_pos (by omega)]
  by_cases g1 : d = s
  · rw [if_pos g1, if_pos g1, if_neg (by omega)]; rfl
  · rw [if_neg g1, if_neg g1]
    by_cases g2 : d = (s : Int) + 1
    · rw [if_pos g2, if_pos g2]; rfl
    · rw [if_neg g2, if_neg g2]; rfl
/-- What the sections count, and that none is disturbed. -/
def Cts (n : Nat) (p : List Pul) (zs : List Int) : Prop := ∀ s, s < n → cntR (chn n) p (s : Nat) (-1) = cA (s : Nat) zs ∧ disR (chn n) p (s : Nat) (-1) = false
theorem Cts.step {n : Nat} {p : List Pul} {zs : List Int} (h : Cts n p zs) {i : Nat} (hi : i < zs.length) {t : Int} (ht : 0 ≤ t) : Cts n (p ++ [(zs.getD i 0, t, 1)]) (zs.set i (zs.getD i 0 + 1)) := by
  intro s hs
  obtain ⟨h1, h2⟩ := h s hs
  unfold cntR disR at *
  have e : sum (effT (chn n) s (-1)) (p ++ [(zs.getD i 0, t, 1)]) = cA s (zs.set i (zs.getD i 0 + 1)) := by
    rw [sum_step, h1, effT_chain hs _ _ ht, cA_set hi]
  refine ⟨e, ?_⟩
  rw [neg_step, h2, ← sum_step, e, Bool.false_or]
  exact decide_eq_false (by have := (cA_nn (s : Int) (zs.set i (zs.getD i 0 + 1))).1; omega)
theorem cA_take {zs : List Int} {k : Nat} (hk : k < zs.length) (s : Int) : cA s (zs.take (k + 1)) = cA s (zs.take k) + (if zs.getD k 0 = s + 1 then 1 else 0) := by
  rw [List.take_succ_eq_append_getElem hk, cA_app, List.getD_eq_getElem?_getD, List.getElem?_eq_getElem hk, Option.getD_some]
  show _ + (_ + 0) = _
  rw [Int.add_zero]
theorem state_cts {n : Nat} {p : List Pul} {zs : List Int} (h : Cts n p zs) {s : Nat} (hs : s < n) (hc : chkR (chn n) p (s : Nat) = 0) :
    countR (chn n) p (s : Nat) (-1) = (cA (s : Nat) zs, 0) ∧ stateR (chn n) p (s : Nat) (-1) = (if cA (s : Nat) zs = 0 then 0 else 1, 0) := by
  obtain ⟨h1, h2⟩ := h s hs
  have := (cA_nn (s : Int) zs).1
  constructor
  · unfold countR; rw [if_pos hc, h1]
  · unfold stateR
    rw [if_pos hc, h2, if_neg (by decide), h1]
    by_cases g : cA (s : Int) zs = 0
    · rw [if_neg (by omega), if_pos g]
    · rw [if_pos (by omega), if_neg g]
end Go.Proofs.Ytbnlaopmmgoalaa
