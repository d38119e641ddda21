/-
  Stage 6, plain: where an encoding ends; what stands in it; the check sum of a changed list.
-/
import Derived.Test.YtjgeolfjhfdbmaaCDec
import Derived.Test.YtjgeolfjhfdbmaaCEnc
set_option linter.unusedSimpArgs false
set_option linter.unusedVariables false
namespace Go.Proofs.Ytjgeolfjhfdbmaa
open Go.RowKit

/-! ### Places -/
theorem tkS_false {bs : List Int} {n k : Nat} {s : Bool} : tkS bs n k s = false ↔ n + k ≤ bs.length ∧ s = false := by
  unfold tkS
  split
  · exact ⟨fun h => (by cases h), fun h => absurd h.1 (by omega)⟩
  · exact ⟨fun h => ⟨(by omega), h⟩, fun h => h.2⟩
theorem tkS_true (bs : List Int) (n k : Nat) : tkS bs n k true = true := by unfold tkS; split <;> rfl
theorem tkN_ok {bs : List Int} {n k : Nat} (h : n + k ≤ bs.length) : tkN bs n k = n + k := by unfold tkN; rw [if_neg (by omega)]
theorem tkV_ok {bs : List Int} {n k : Nat} (h : n + k ≤ bs.length) : tkV bs n k = (bs.drop n).take k := by unfold tkV; rw [if_neg (by omega)]
theorem getD_cut {bs : List Int} {n k j : Nat} (hj : j < k) : ((bs.drop n).take k).getD j 0 = bs.getD (n + j) 0 := by
  rw [getD_take _ _ _ hj, List.getD_eq_getElem?_getD, List.getElem?_drop, ← List.getD_eq_getElem?_getD]
theorem sgV_ok {bs : List Int} {n : Nat} (h : n + 1 ≤ bs.length) : sgV bs n = bs.getD n 0 := by
  unfold sgV; rw [tkV_ok h, getD_cut (by decide)]; rfl
theorem prV_ok {bs : List Int} {n : Nat} (h : n + 2 ≤ bs.length) : prV bs n = bs.getD n 0 * 256 + bs.getD (n + 1) 0 := by
  unfold prV; rw [tkV_ok h, getD_cut (by decide), getD_cut (by decide)]; rfl
/-- The length of the name of the wagon at n; the wagon; what is wrong with it. -/
def dAt (bs : List Int) (n : Nat) : Nat := (bs.getD (n + 14) 0).toNat
def wagAt (bs : List Int) (n : Nat) : Wag :=
  ⟨strOfNums (numB ((bs.drop n).take 6)), bs.getD (n + 6) 0 * 256 + bs.getD (n + 7) 0, bs.getD (n + 8) 0, bs.getD (n + 9) 0 * 256 + bs.getD (n + 10) 0, bs.getD (n + 11) 0 * 256 + bs.getD (n + 12) 0,
   gdV (bs.getD (n + 13) 0), decide (16 ≤ bs.getD (n + 13) 0), strOfNums ((bs.drop (n + 15)).take (dAt bs n))⟩
def badAt (bs : List Int) (n : Nat) : Bool := badB ((bs.drop n).take 6) || decide (9 < gdV (bs.getD (n + 13) 0))
theorem rd_places {bs : List Int} {n : Nat} (h : n + 15 ≤ bs.length) : rd1 bs n = n + 6 ∧ rd2 bs n = n + 8 ∧ rd3 bs n = n + 9 ∧ rd4 bs n = n + 11 ∧ rd5 bs n = n + 13 ∧ rd6 bs n = n + 14 ∧ rd7 bs n = n + 15 ∧ (sgV bs (n + 14)).toNat = dAt bs n := by
  have e1 : rd1 bs n = n + 6 := tkN_ok (by omega)
  have e2 : rd2 bs n = n + 8 := by unfold rd2; rw [e1, tkN_ok (by omega)]
  have e3 : rd3 bs n = n + 9 := by unfold rd3; rw [e2, tkN_ok (by omega)]
  have e4 : rd4 bs n = n + 11 := by unfold rd4; rw [e3, tkN_ok (by omega)]
  have e5 : rd5 bs n = n + 13 := by unfold rd5; rw [e4, tkN_ok (by omega)]
  have e6 : rd6 bs n = n + 14 := by unfold rd6; rw [e5, tkN_ok (by omega)]
  have e7 : rd7 bs n = n + 15 := by unfold rd7; rw [e6, tkN_ok (by omega)]
  exact ⟨e1, e2, e3, e4, e5, e6, e7, by rw [sgV_ok (by omega)]; rfl⟩
theorem rdS_false {bs : List Int} {n : Nat} {s : Bool} : rdS bs n s = false ↔ s = false ∧ n + 15 + dAt bs n ≤ bs.length := by
  constructor
  · intro h
    unfold rdS at h
    obtain ⟨h8, h⟩ := tkS_false.1 h
    obtain ⟨h7, h⟩ := tkS_false.1 h
    obtain ⟨h6, h⟩ := tkS_false.1 h
    obtain ⟨h5, h⟩ := tkS_false.1 h
    obtain ⟨h4, h⟩ := tkS_false.1 h
    obtain ⟨h3, h⟩ := tkS_false.1 h
    obtain ⟨h2, h⟩ := tkS_false.1 h
    obtain ⟨h1, h⟩ := tkS_false.1 h
    have e1 : rd1 bs n = n + 6 := tkN_ok (by omega)
    rw [e1] at h2
    have e2 : rd2 bs n = n + 8 := by unfold rd2; rw [e1, tkN_ok (by omega)]
    rw [e2] at h3
    have e3 : rd3 bs n = n + 9 := by unfold rd3; rw [e2, tkN_ok (by omega)]
    rw [e3] at h4
    have e4 : rd4 bs n = n + 11 := by unfold rd4; rw [e3, tkN_ok (by omega)]
    rw [e4] at h5
    have e5 : rd5 bs n = n + 13 := by unfold rd5; rw [e4, tkN_ok (by omega)]
    rw [e5] at h6
    have e6 : rd6 bs n = n + 14 := by unfold rd6; rw [e5, tkN_ok (by omega)]
    rw [e6] at h7
    obtain ⟨_, _, _, _, _, _, e7, e8⟩ := rd_places (bs := bs) (n := n) (by omega)
    rw [e6, e7, e8] at h8
    exact ⟨h, by omega⟩
  · rintro ⟨rfl, h⟩
    obtain ⟨e1, e2, e3, e4, e5, e6, e7, e8⟩ := rd_places (bs := bs) (n := n) (by omega)
    unfold rdS
    rw [e1, e2, e3, e4, e5, e6, e7, e8]
    refine tkS_false.2 ⟨by omega, tkS_false.2 ⟨by omega, tkS_false.2 ⟨by omega, tkS_false.2 ⟨by omega, tkS_false.2 ⟨by omega, tkS_false.2 ⟨by omega, tkS_false.2 ⟨by omega, tkS_false.2 ⟨by omega, rfl⟩⟩⟩⟩⟩⟩⟩⟩
theorem rd_ok {bs : List Int} {n : Nat} (g : Bool) (h : n + 15 + dAt bs n ≤ bs.length) : rdN bs n = n + 15 + dAt bs n ∧ rdX bs n = wagAt bs n ∧ rdG bs n g = (g || badAt bs n) := by
  obtain ⟨e1, e2, e3, e4, e5, e6, e7, e8⟩ := rd_places (bs := bs) (n := n) (by omega)
  refine ⟨?_, ?_, ?_⟩
  · unfold rdN; rw [e6, e7, e8, tkN_ok h]
  · unfold rdX wagAt nmV
    rw [e1, e2, e3, e4, e5, e6, e7, e8, tkV_ok (by omega), prV_ok (by omega), sgV_ok (by omega), prV_ok (by omega), prV_ok (by omega), sgV_ok (by omega), tkV_ok h]
  · unfold rdG badAt nmG
    rw [e5, tkV_ok (by omega), sgV_ok (by omega), Bool.or_assoc]
theorem lsN_front (bs : List Int) (n k : Nat) : lsN bs n (k + 1) = lsN bs (rdN bs n) k := by
  induction k with
  | zero => rfl
  | succ k ih => show rdN bs (lsN bs n (k + 1)) = rdN bs (lsN bs (rdN bs n) k); rw [ih]
theorem lsS_front (bs : List Int) (n : Nat) (s : Bool) (k : Nat) : lsS bs n s (k + 1) = lsS bs (rdN bs n) (rdS bs n s) k := by
  induction k with
  | zero => rfl
  | succ k ih => show rdS bs (lsN bs n (k + 1)) (lsS bs n s (k + 1)) = rdS bs (lsN bs (rdN bs n) k) (lsS bs (rdN bs n) (rdS bs n s) k); rw [ih, lsN_front]
theorem lsG_front (bs : List Int) (n : Nat) (g : Bool) (k : Nat) : lsG bs n g (k + 1) = lsG bs (rdN bs n) (rdG bs n g) k := by
  induction k with
  | zero => rfl
  | succ k ih => show rdG bs (lsN bs n (k + 1)) (lsG bs n g (k + 1)) = rdG bs (lsN bs (rdN bs n) k) (lsG bs (rdN bs n) (rdG bs n g) k); rw [ih, lsN_front]
theorem lsX_front (bs : List Int) (n k : Nat) : lsX bs n (k + 1) = rdX bs n :: lsX bs (rdN bs n) k := by
  induction k with
  | zero => rfl
  | succ k ih => show lsX bs n (k + 1) ++ [rdX bs (lsN bs n (k + 1))] = _; rw [ih, lsN_front]; rfl
theorem lsS_true (bs : List Int) (n k : Nat) : lsS bs n true k = true := by
  induction k with
  | zero => rfl
  | succ k ih =>
    show rdS bs (lsN bs n k) (lsS bs n true k) = true
    rw [ih]
    cases h : rdS bs (lsN bs n k) true with
    | true => rfl
    | false => exact absurd (rdS_false.1 h).1 (by decide)
theorem lsG_true (bs : List Int) (n k : Nat) : lsG bs n true k = true := by
  induction k with
  | zero => rfl
  | succ k ih => show rdG bs (lsN bs n k) (lsG bs n true k) = true; rw [ih]; unfold rdG; simp
/-- Where the encoding of c wagons from n on ends. -/
def endFrom (bs : List Int) : Nat → Nat → Option Nat
  | 0, n => if bs.length < n + 2 then none else some (n + 2)
  | c + 1, n => if bs.length < n + 15 then none else if bs.length < n + 15 + dAt bs n then none else endFrom bs c (n + 15 + dAt bs n)
theorem endFrom_eq (bs : List Int) (c n : Nat) : endFrom bs c n = if tkS bs (lsN bs n c) 2 (lsS bs n false c) = true then none else some (lsN bs n c + 2) := by
  induction c generalizing n with
  | zero =>
    show (if bs.length < n + 2 then none else some (n + 2)) = if tkS bs n 2 false = true then none else some (n + 2)
    unfold tkS
    by_cases h : bs.length < n + 2
    · rw [if_pos h, if_pos h]; rfl
    · rw [if_neg h, if_neg h]; rfl
  | succ c ih =>
    show (if bs.length < n + 15 then none else if bs.length < n + 15 + dAt bs n then none else endFrom bs c (n + 15 + dAt bs n)) = _
    rw [lsN_front, lsS_front]
    cases h : rdS bs n false with
    | true =>
      rw [lsS_true, tkS_true, if_pos rfl]
      have hn : ¬ (n + 15 + dAt bs n ≤ bs.length) := fun g => by
        have := rdS_false.2 ⟨rfl, g⟩
        rw [h] at this; cases this
      by_cases h1 : bs.length < n + 15
      · rw [if_pos h1]
      · rw [if_neg h1, if_pos (by omega)]
    | false =>
      have hk := (rdS_false.1 h).2
      rw [if_neg (by omega), if_neg (by omega), (rd_ok false hk).1, ih]
/-- Where an encoding ends: -1 where the bytes end before. -/
def endR (bs : List Int) : Int := if bs.length = 0 then -1 else match endFrom bs (bs.getD 0 0).toNat 1 with
  | none => -1
  | some n => n
theorem endR_neg {bs : List Int} : endR bs < 0 ↔ tkS bs (endN bs) 2 (endS bs) = true := by
  unfold endR endN endS
  by_cases h0 : bs.length = 0
  · rw [if_pos h0]
    have e : tkS bs 0 1 false = true := by unfold tkS; rw [if_pos (by omega)]
    rw [e, lsS_true, tkS_true]
    exact ⟨fun _ => rfl, fun _ => by decide⟩
  · have e1 : tkS bs 0 1 false = false := tkS_false.2 ⟨by omega, rfl⟩
    have e2 : tkN bs 0 1 = 1 := tkN_ok (by omega)
    have e3 : cntV bs 0 = (bs.getD 0 0).toNat := by unfold cntV; rw [sgV_ok (by omega)]
    rw [if_neg h0, e1, e2, e3, endFrom_eq]
    by_cases h : tkS bs (lsN bs 1 (bs.getD 0 0).toNat) 2 (lsS bs 1 false (bs.getD 0 0).toNat) = true
    · rw [if_pos h]; exact ⟨fun _ => h, fun _ => by decide⟩
    · rw [if_neg h]
      exact ⟨fun g => by simp only at g; omega, fun g => absurd g h⟩
theorem endR_pos {bs : List Int} (h : 0 ≤ endR bs) : 0 < bs.length ∧ endR bs = (endN bs : Int) + 2 ∧ endN bs + 2 ≤ bs.length ∧ endS bs = false ∧ endN bs = lsN bs 1 (bs.getD 0 0).toNat ∧ endG bs = lsG bs 1 false (bs.getD 0 0).toNat ∧ endX bs = lsX bs 1 (bs.getD 0 0).toNat ∧ tkS bs (endN bs) 2 (endS bs) = false ∧ tkN bs (endN bs) 2 = endN bs + 2 ∧ lsS bs 1 false (bs.getD 0 0).toNat = false := by
  have hs : tkS bs (endN bs) 2 (endS bs) = false := by
    cases g : tkS bs (endN bs) 2 (endS bs) with
    | false => rfl
    | true => have := endR_neg.2 g; omega
  obtain ⟨h1, h2⟩ := tkS_false.1 hs
  have h0 : ¬ bs.length = 0 := fun e => by
    have : endR bs = -1 := by unfold endR; rw [if_pos e]
    omega
  have e1 : tkS bs 0 1 false = false := tkS_false.2 ⟨by omega, rfl⟩
  have e2 : tkN bs 0 1 = 1 := tkN_ok (by omega)
  have e3 : cntV bs 0 = (bs.getD 0 0).toNat := by unfold cntV; rw [sgV_ok (by omega)]
  have eN : endN bs = lsN bs 1 (bs.getD 0 0).toNat := by unfold endN; rw [e2, e3]
  have eS : lsS bs 1 false (bs.getD 0 0).toNat = false := by
    have := h2
    unfold endS at this
    rwa [e1, e2, e3] at this
  refine ⟨by omega, ?_, h1, h2, eN, by unfold endG; rw [e2, e3], by unfold endX; rw [e2, e3], hs, tkN_ok h1, eS⟩
  unfold endR
  rw [if_neg h0, endFrom_eq, ← eN]
  rw [if_neg (by rw [eS, ← h2, hs]; decide)]
  rfl
/-- Decode, in terms of the end. -/
theorem dec_neg {bs : List Int} (h : endR bs < 0) : decR bs = ([], 10) := by unfold decR; rw [if_pos (endR_neg.1 h)]
theorem dec_less {bs : List Int} (h : 0 ≤ endR bs) (h2 : endR bs < bs.length) : decR bs = ([], 11) := by
  obtain ⟨_, p1, p2, p3, _, _, _, p4, p5, _⟩ := endR_pos h
  unfold decR
  rw [if_neg (by rw [p4]; decide), if_pos (by rw [p5]; omega)]
theorem dec_sum {bs : List Int} (h : endR bs = bs.length) (h2 : bs.getD (bs.length - 2) 0 * 256 + bs.getD (bs.length - 1) 0 ≠ chk (bs.take (bs.length - 2))) : decR bs = ([], 9) := by
  obtain ⟨p0, p1, p2, p3, _, _, _, p4, p5, _⟩ := endR_pos (bs := bs) (by omega)
  have e : endN bs = bs.length - 2 := by omega
  unfold decR
  rw [if_neg (by rw [p4]; decide), if_neg (by rw [p5]; omega), if_pos (by rw [prV_ok p2, e, show bs.length - 2 + 1 = bs.length - 1 by omega]; exact h2)]
theorem dec_rest {bs : List Int} (h : endR bs = bs.length) (h2 : bs.getD (bs.length - 2) 0 * 256 + bs.getD (bs.length - 1) 0 = chk (bs.take (bs.length - 2))) :
    decR bs = if endG bs = true then ([], 11) else if validL (endX bs) ≠ 0 then ([], validL (endX bs)) else (endX bs, 0) := by
  obtain ⟨p0, p1, p2, p3, _, _, _, p4, p5, _⟩ := endR_pos (bs := bs) (by omega)
  have e : endN bs = bs.length - 2 := by omega
  unfold decR
  rw [if_neg (by rw [p4]; decide), if_neg (by rw [p5]; omega), if_neg (by rw [prV_ok p2, e, show bs.length - 2 + 1 = bs.length - 1 by omega]; exact fun g => g h2)]

/-! ### The check sum -/
def sumW (bs : List Int) : Nat → Int
  | 0 => 0
  | n + 1 => sumW bs n + ((n : Int) + 1) * bs.getD n 0
theorem chkTo_sum (bs : List Int) (n : Nat) : chkTo bs n = sumW bs n % 65521 := by
  induction n with
  | zero => rfl
  | succ n ih => unfold chkTo sumW; rw [ih]; omega
theorem sumW_set (bs : List Int) (i : Nat) (v : Int) (n : Nat) (hi : i < bs.length) : sumW (bs.set i v) n = sumW bs n + (if i < n then ((i : Int) + 1) * (v - bs.getD i 0) else 0) := by
  induction n with
  | zero => simp [sumW]
  | succ n ih =>
    unfold sumW
    rw [ih, getD_set _ _ _ _ hi]
    by_cases h1 : i < n
    · rw [if_pos h1, if_pos (show i < n + 1 by omega), if_neg (show ¬ n = i by omega)]; omega
    · by_cases h2 : n = i
      · subst h2
        rw [if_neg h1, if_pos rfl, if_pos (show n < n + 1 by omega), Int.mul_sub]; omega
      · rw [if_neg h1, if_neg (show ¬ i < n + 1 by omega), if_neg h2]; omega
theorem sumW_take (bs : List Int) (n m : Nat) (h : m ≤ n) : sumW (bs.take n) m = sumW bs m := by
  induction m with
  | zero => rfl
  | succ m ih => unfold sumW; rw [ih (by omega), getD_take _ _ _ (by omega)]
theorem chk_take {bs : List Int} {n : Nat} (h : n ≤ bs.length) : chk (bs.take n) = sumW bs n % 65521 := by
  unfold chk
  rw [List.length_take, Nat.min_eq_left h, chkTo_sum, sumW_take _ _ _ (Nat.le_refl _)]
end Go.Proofs.Ytjgeolfjhfdbmaa
