/-
  Stage 2: the reference's sum, Digit and Valid.
-/
import Derived.Test.YtgiodpepjajlmaaStr
set_option linter.unusedSimpArgs false
set_option linter.unusedVariables false
namespace Go.Proofs.Ytgiodpepjajlmaa
open Go.RowKit

/-- A digit's value, and what it adds at place i. -/
def dv (c : UInt8) : Int := (c.toNat : Int) - 48
def wt (i : Nat) (c : UInt8) : Int := if i % 2 = 0 then (if 9 < 2 * dv c then 2 * dv c - 9 else 2 * dv c) else dv c
/-- The sum of the first n digits. -/
def sumTo (l : List UInt8) : Nat → Int
  | 0 => 0
  | n + 1 => sumTo l n + wt n (l.getD n 48)

theorem dig_all {s : ByteArray} (h : s.data.toList.all dig = true) (k : Nat) (hk : k < s.size) : 48 ≤ s[k].toNat ∧ s[k].toNat ≤ 57 := by
  have hm : s[k] ∈ s.data.toList := by
    have e : s[k] = s.data.toList[k]'(by simpa using hk) := rfl
    rw [e]; exact List.getElem_mem _
  have := List.all_eq_true.1 h _ hm
  simpa [dig] using this
theorem getD_byte (s : ByteArray) (k : Nat) (hk : k < s.size) (d : UInt8) : s.data.toList.getD k d = s[k] := by
  rw [List.getD_eq_getElem?_getD, List.getElem?_eq_getElem (by simpa using hk)]; rfl
theorem wt_bd (i : Nat) (c : UInt8) (h : 48 ≤ c.toNat ∧ c.toNat ≤ 57) : 0 ≤ wt i c ∧ wt i c ≤ 9 := by
  unfold wt dv; split <;> (try split) <;> omega
theorem sumTo_bd {s : ByteArray} (h : s.data.toList.all dig = true) (n : Nat) (hn : n ≤ s.size) : 0 ≤ sumTo s.data.toList n ∧ sumTo s.data.toList n ≤ 9 * n := by
  induction n with
  | zero => exact ⟨by simp [sumTo], by simp [sumTo]⟩
  | succ n ih =>
    have := ih (by omega)
    have hw := wt_bd n (s.data.toList.getD n 48) (by rw [getD_byte s n (by omega)]; exact dig_all h n (by omega))
    unfold sumTo
    omega

set_option maxHeartbeats 800000 in
theorem sum_any (s : ByteArray) (n : Int) (w : World) (h0 : 0 ≤ n) (h1 : n ≤ s.size) (h2 : s.size ≤ 1000) (hd : s.data.toList.all dig = true) :
    Calls Try.prog 56 #[.string s, .int .i64 n] w fun e w' => e = .returned (.int .i64 (sumTo s.data.toList n.toNat)) ∧ w = w' := by
  obtain ⟨N, rfl⟩ := Int.eq_ofNat_of_zero_le h0
  rw [Int.toNat_natCast]
  have HD := Lib.hid hd
  clear hd
  go_enter Try.func56, Try.ntmps56
  go_wp2_with fail
  go_loop [5, 6] (fun t i => ∃ k : Nat, k ≤ N ∧ i = .int .i64 k ∧ t = .int .i64 (sumTo s.data.toList k)) (fun _ i => N - (intOf i).toNat)
  case atStart => exact ⟨0, by omega, rfl, by simp [sumTo]⟩
  case round =>
    obtain ⟨k, hk, rfl, rfl⟩ := hrel
    have hb := sumTo_bd HD.out k (by omega)
    obtain ⟨b1, b2⟩ := hb
    by_cases hlt : k < N
    · obtain ⟨c1, c2⟩ := dig_all HD.out k (by omega)
      have hks : k < s.size := by omega
      have HS : Hid (sumTo s.data.toList (k + 1) = sumTo s.data.toList k + wt k s[k]) := Lib.hid (by rw [sumTo, getD_byte s k hks])
      have d1 : 48 ≤ (s[k].toNat : Int) := by omega
      have d2 : (s[k].toNat : Int) ≤ 57 := by omega
      by_cases p : k % 2 = 0
      · have pe : ((k : Int) % 2 == 0) = true := beq_iff_eq.2 (by omega)
        have HW : Hid (wt k s[k] = if 9 < 2 * dv s[k] then 2 * dv s[k] - 9 else 2 * dv s[k]) := Lib.hid (by unfold wt; rw [if_pos p])
        clear p
        by_cases g : 9 < 2 * dv s[k]
        all_goals
          have HG := Lib.hid g
          have g' := g
          unfold dv at g'
          clear g
          go_wp2
          go_round
          case rel => exact ⟨k + 1, by omega, by go_num, congrArg (Value.int .i64) (by rw [HS.out, HW.out]; have hg := HG.out; unfold dv at hg ⊢; first | (rw [if_pos hg]; omega) | (rw [if_neg hg]; omega))⟩
          case measure => simp [intOf]; omega
      · have pe : ((k : Int) % 2 == 0) = false := beq_eq_false_iff_ne.2 (by omega)
        have HW : Hid (wt k s[k] = dv s[k]) := Lib.hid (by unfold wt; rw [if_neg p])
        clear p
        go_wp2
        go_round
        case rel => exact ⟨k + 1, by omega, by go_num, congrArg (Value.int .i64) (by rw [HS.out, HW.out]; unfold dv; omega)⟩
        case measure => simp [intOf]; omega
    · obtain rfl : N = k := by omega
      go_wp2
      go_ret
      exact ⟨rfl, rfl⟩

/-- The check digit of eleven digits. -/
def chkS (l : List UInt8) : Int := (10 - sumTo l 11 % 10) % 10
def digitR (s : ByteArray) : Int × Int := if dgs s 11 = true then (chkS s.data.toList, 0) else (0, 11)

theorem dgs_t {s : ByteArray} {n : Nat} (h : dgs s n = true) : s.size = n ∧ s.data.toList.all dig = true := by
  unfold dgs at h
  simpa using h

set_option maxHeartbeats 400000 in
theorem rdigit_any (s : ByteArray) (w : World) :
    Calls Try.prog 51 #[.string s] w fun e w' => e = .returned (R2 (digitR s)) ∧ w = w' := by
  cases hs : dgs s 11
  · have HF : Hid (digitR s = (0, 11)) := Lib.hid (by unfold digitR; rw [hs]; rfl)
    go_enter Try.func51, Try.ntmps51
    go_wp2_with fail
    refine (digits_any _ _ _ (by omega) (by omega)).mono ?_
    rintro e w' ⟨rfl, rfl⟩
    go_wp2_with fail
    go_ret2
    exact ⟨ret_r2 HF.out, rfl⟩
  · have HF : Hid (digitR s = (chkS s.data.toList, 0)) := Lib.hid (by unfold digitR; rw [if_pos hs])
    obtain ⟨hz, hd⟩ := dgs_t hs
    have hb := sumTo_bd hd 11 (by omega)
    obtain ⟨b1, b2⟩ := hb
    have HD := Lib.hid hd
    have HZ := Lib.hid hz
    clear hz hd
    go_enter Try.func51, Try.ntmps51
    go_wp2_with fail
    refine (digits_any _ _ _ (by omega) (by omega)).mono ?_
    rintro e w' ⟨rfl, rfl⟩
    go_wp2_with fail
    refine (sum_any _ _ _ (by omega) (by have := HZ.out; omega) (by have := HZ.out; omega) HD.out).mono ?_
    rintro e w' ⟨rfl, rfl⟩
    go_wp2_with fail
    go_ret2
    exact ⟨ret_r2 HF.out, rfl⟩

/-- The last digit is the check digit. -/
def oks (l : List UInt8) : Bool := decide ((sumTo l 11 + dv (l.getD 11 48)) % 10 = 0)
def validS (s : ByteArray) : Int := if dgs s 12 = true then (if oks s.data.toList = true then 0 else 9) else 11

theorem validR_ok {s : ByteArray} (h : dgs s 12 = true) (k : oks s.data.toList = true) : validS s = 0 := by unfold validS; rw [if_pos h, if_pos k]

theorem sumTo_append (l l' : List UInt8) (n : Nat) (h : n ≤ l.length) : sumTo (l ++ l') n = sumTo l n := by
  induction n with
  | zero => rfl
  | succ n ih =>
    unfold sumTo
    rw [ih (by omega), List.getD_eq_getElem?_getD, List.getD_eq_getElem?_getD, List.getElem?_append_left (by omega)]
theorem chk_bd (l : List UInt8) : 0 ≤ chkS l ∧ chkS l ≤ 9 := by unfold chkS; omega

end Go.Proofs.Ytgiodpepjajlmaa
