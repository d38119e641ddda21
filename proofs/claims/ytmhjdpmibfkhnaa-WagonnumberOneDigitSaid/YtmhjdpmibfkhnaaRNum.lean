/-
  Stage 2, no program: the check digit under one replacement and one exchange.
-/
import Derived.Test.YtmhjdpmibfkhnaaREq
set_option linter.unusedSimpArgs false
set_option linter.unusedVariables false
namespace Go.Proofs.Ytmhjdpmibfkhnaa
open Go.RowKit

theorem sumTo_set (l : List UInt8) (i : Nat) (c : UInt8) (hi : i < l.length) (n : Nat) : sumTo (l.set i c) n = sumTo l n + (if i < n then wt i c - wt i (l.getD i 48) else 0) := by
  induction n with
  | zero => simp [sumTo]
  | succ n ih =>
    unfold sumTo
    rw [ih, getD_set8 _ _ _ _ _ hi]
    by_cases e : n = i
    · subst e
      rw [if_pos rfl, if_neg (by omega), if_pos (by omega)]; omega
    · rw [if_neg e]
      by_cases g : i < n
      · rw [if_pos g, if_pos (by omega)]; omega
      · rw [if_neg g, if_neg (by omega)]; omega

/-- What the digit k adds at place i. -/
def wk (i k : Nat) : Int := if i % 2 = 0 then (if 9 < 2 * k then 2 * k - 9 else 2 * k) else k
theorem wt_dg (i : Nat) (c : UInt8) (k : Nat) (h : c.toNat = 48 + k) : wt i c = wk i k := by
  unfold wt wk dv
  rw [h]
  split
  · split
    · rw [if_pos (by omega)]; omega
    · rw [if_neg (by omega)]; omega
  · omega
theorem wk_inj (i k k' : Nat) (r : Int) (h : k < 10) (h' : k' < 10) (a : (r + wk i k) % 10 = 0) (b : (r + wk i k') % 10 = 0) : k = k' := by
  unfold wk at a b
  split at a
  · rename_i c
    rw [if_pos c] at b
    split at a <;> split at b <;> omega
  · rename_i c
    rw [if_neg c] at b
    omega
theorem wk_has (i : Nat) (r : Int) : ∃ k, k < 10 ∧ (r + wk i k) % 10 = 0 := by
  unfold wk
  by_cases c : i % 2 = 0
  · simp only [if_pos c]
    by_cases e : ((10 - r % 10) % 10) % 2 = 0
    · refine ⟨(((10 - r % 10) % 10) / 2).toNat, by omega, ?_⟩
      rw [if_neg (by omega)]; omega
    · refine ⟨((((10 - r % 10) % 10) + 9) / 2).toNat, by omega, ?_⟩
      rw [if_pos (by omega)]; omega
  · simp only [if_neg c]
    exact ⟨((10 - r % 10) % 10).toNat, by omega, by omega⟩

/-- The digit at a place. -/
def dgt (s : ByteArray) (i : Nat) : Nat := (bt s i).toNat - 48
theorem dgt_lt {s : ByteArray} (h : dgs s 12 = true) (i : Nat) (hi : i < 12) : dgt s i < 10 ∧ (bt s i).toNat = 48 + dgt s i := by
  obtain ⟨hz, hd⟩ := dgs_t h
  have := bt_dig hd i (by omega)
  unfold dgt; omega
/-- The sum without place i. -/
def rst (s : ByteArray) (i : Nat) : Int := sumTo s.data.toList 12 - wk i (dgt s i)
theorem ok_self {s : ByteArray} (h : dgs s 12 = true) (i : Nat) (hi : i < 12) : okP s = true ↔ (rst s i + wk i (dgt s i)) % 10 = 0 := by
  unfold okP rst
  rw [(dgs_t h).1, decide_eq_true_eq]
  rw [show sumTo s.data.toList 12 - wk i (dgt s i) + wk i (dgt s i) = sumTo s.data.toList 12 by omega]
theorem ok_rep {s : ByteArray} (h : dgs s 12 = true) (i k : Nat) (hi : i < 12) (hk : k < 10) : okP (rep1 s i k) = true ↔ (rst s i + wk i k) % 10 = 0 := by
  obtain ⟨hz, hd⟩ := dgs_t h
  unfold okP rst
  rw [rep_size hz i k hi, decide_eq_true_eq, rep_list hz i k hi, sumTo_set _ _ _ (by rw [len_data]; omega), if_pos hi, wt_dg i (dg k) k (dg_nat k hk), wt_dg i (s.data.toList.getD i 48) (dgt s i) (dgt_lt h i hi).2]
  rw [show sumTo s.data.toList 12 + (wk i k - wk i (dgt s i)) = sumTo s.data.toList 12 - wk i (dgt s i) + wk i k by omega]

/-- A number with one digit replaced is none. -/
theorem rep_bad {s : ByteArray} (h : dgs s 12 = true) (ok : okP s = true) (i k : Nat) (hi : i < 12) (hk : k < 10) (n : 48 + k ≠ (bt s i).toNat) : okP (rep1 s i k) = false := by
  cases e : okP (rep1 s i k) with
  | false => rfl
  | true =>
    have a := (ok_rep h i k hi hk).1 e
    have b := (ok_self h i hi).1 ok
    have := wk_inj i _ _ _ hk (dgt_lt h i hi).1 a b
    have := (dgt_lt h i hi).2
    omega
/-- Every other string of digits has one replacement at each place. -/
theorem rep_one {s : ByteArray} (h : dgs s 12 = true) (bad : okP s = false) (i : Nat) (hi : i < 12) : ∃ k, k < 10 ∧ 48 + k ≠ (bt s i).toNat ∧ okP (rep1 s i k) = true ∧ ∀ k', k' < 10 → okP (rep1 s i k') = true → k' = k := by
  obtain ⟨k, hk, hs⟩ := wk_has i (rst s i)
  have ho := (ok_rep h i k hi hk).2 hs
  refine ⟨k, hk, fun e => ?_, ho, fun k' hk' ho' => wk_inj i _ _ _ hk' hk ((ok_rep h i k' hi hk').1 ho') hs⟩
  rw [(rep_self (dgs_t h).1 hi hk).2 e, bad] at ho
  cases ho
/-- How many of the first n digits make a number at place i. -/
def cnt (s : ByteArray) (i n : Nat) : Nat := ((List.range n).filter fun k => 48 + k != (bt s i).toNat && okP (rep1 s i k)).length
theorem cnt_zero (s : ByteArray) (i : Nat) : cnt s i 0 = 0 := rfl
theorem cnt_succ (s : ByteArray) (i n : Nat) : cnt s i (n + 1) = cnt s i n + if 48 + n ≠ (bt s i).toNat ∧ okP (rep1 s i n) = true then 1 else 0 := by
  unfold cnt
  rw [List.range_succ, List.filter_append, List.length_append]
  congr 1
  rw [List.filter_cons, List.filter_nil]
  generalize (bt s i).toNat = c
  cases ho : okP (rep1 s i n)
  · rw [if_neg (by simp), if_neg (by simp)]; rfl
  · by_cases e : 48 + n = c
    · rw [if_neg (by simp [e]), if_neg (by simp [e])]; rfl
    · rw [if_pos (by simp [e]), if_pos ⟨e, rfl⟩]; rfl
theorem cnt_le (s : ByteArray) (i n : Nat) : cnt s i n ≤ n := by
  induction n with
  | zero => exact Nat.le_refl _
  | succ n ih => rw [cnt_succ]; split <;> omega
theorem cnt_ok {s : ByteArray} (h : dgs s 12 = true) (ok : okP s = true) (i : Nat) (hi : i < 12) (n : Nat) (hn : n ≤ 10) : cnt s i n = 0 := by
  induction n with
  | zero => rfl
  | succ n ih =>
    rw [cnt_succ, ih (by omega), if_neg]
    rintro ⟨a, b⟩
    rw [rep_bad h ok i n hi (by omega) a] at b
    cases b
theorem cnt_bad {s : ByteArray} (h : dgs s 12 = true) (bad : okP s = false) (i : Nat) (hi : i < 12) : cnt s i 10 = 1 := by
  obtain ⟨k, hk, a, b, u⟩ := rep_one h bad i hi
  have g : ∀ n, n ≤ 10 → cnt s i n = if k < n then 1 else 0 := by
    intro n hn
    induction n with
    | zero => rfl
    | succ n ih =>
      rw [cnt_succ, ih (by omega)]
      by_cases e : n = k
      · subst e; rw [if_neg (by omega), if_pos ⟨a, b⟩, if_pos (by omega)]
      · rw [if_neg (show ¬ (48 + n ≠ (bt s i).toNat ∧ okP (rep1 s i n) = true) from fun g => e (u n (by omega) g.2))]
        by_cases f : k < n
        · rw [if_pos f, if_pos (by omega)]
        · rw [if_neg f, if_neg (by omega)]
  rw [g 10 (by omega), if_pos hk]
/-- So there are twelve repairs at least. -/
theorem twelve_reps {s : ByteArray} (h : dgs s 12 = true) (bad : okP s = false) : 12 ≤ (repL s).length := by
  have g : ∀ n, n ≤ 12 → n ≤ ((reps s n).filter okP).length := by
    intro n hn
    induction n with
    | zero => omega
    | succ n ih =>
      rw [reps_succ, List.filter_append, List.length_append]
      obtain ⟨k, hk, a, b, _⟩ := rep_one h bad n (by omega)
      have : 0 < ((repsAt s n 10).filter okP).length := List.length_pos_of_mem (List.mem_filter.2 ⟨mem_repsAt.2 ⟨k, hk, a, rfl⟩, b⟩)
      have := ih (by omega)
      omega
  unfold repL allL
  rw [List.filter_append, List.length_append]
  have := g 12 (by omega)
  omega

/-- An exchange makes a number of a number for equal digits, and for 0 and 9. -/
theorem exc_ok {s : ByteArray} (h : dgs s 12 = true) (ok : okP s = true) (i : Nat) (hi : i < 11) :
    okP (exc1 s i) = true ↔ ((bt s i).toNat = (bt s (i + 1)).toNat ∨ ((bt s i).toNat = 48 ∧ (bt s (i + 1)).toNat = 57) ∨ ((bt s i).toNat = 57 ∧ (bt s (i + 1)).toNat = 48)) := by
  obtain ⟨hz, hd⟩ := dgs_t h
  obtain ⟨a1, a2⟩ := dgt_lt h i (by omega)
  obtain ⟨b1, b2⟩ := dgt_lt h (i + 1) (by omega)
  have ok' : sumTo s.data.toList 12 % 10 = 0 := by unfold okP at ok; rw [hz] at ok; exact of_decide_eq_true ok
  unfold okP
  rw [exc_size hz i hi, decide_eq_true_eq, exc_list hz i hi, sumTo_set _ _ _ (by rw [List.length_set, len_data]; omega), sumTo_set _ _ _ (by rw [len_data]; omega), if_pos (by omega), if_pos (by omega), getD_set8 _ _ _ _ _ (by rw [len_data]; omega), if_neg (by omega),
    wt_dg i _ _ b2, wt_dg i _ _ a2, wt_dg (i + 1) _ _ a2, wt_dg (i + 1) _ _ b2, a2, b2]
  generalize dgt s i = a at *
  generalize dgt s (i + 1) = b at *
  by_cases p : i % 2 = 0
  · have e1 : ∀ x : Nat, wk i x = if 9 < 2 * x then 2 * (x : Int) - 9 else 2 * x := fun x => if_pos p
    have e2 : ∀ x : Nat, wk (i + 1) x = x := fun x => if_neg (by omega)
    rw [e1, e1, e2, e2]
    split <;> split <;> omega
  · have e1 : ∀ x : Nat, wk (i + 1) x = if 9 < 2 * x then 2 * (x : Int) - 9 else 2 * x := fun x => if_pos (by omega)
    have e2 : ∀ x : Nat, wk i x = x := fun x => if_neg p
    rw [e1, e1, e2, e2]
    split <;> split <;> omega

end Go.Proofs.Ytmhjdpmibfkhnaa
