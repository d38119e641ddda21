/-
  Stage 2: the reference's sum, Digit and Valid.
-/
import Derived.Test.YtdoifaifhikkjaaGreatDoorStr
set_option linter.unusedSimpArgs false
set_option linter.unusedVariables false
namespace Go.Proofs.YtdoifaifhikkjaaGreatDoor
open Go.RowKit

/-- A digit's value, and what it adds at place i. -/
def dv (c : UInt8) : Int := (c.toNat : Int) - 48
def wt (i : Nat) (c : UInt8) : Int := if i % 2 = 0 then (if 9 < 2 * dv c then 2 * dv c - 9 else 2 * dv c) else dv c
/-- The sum of the first n digits. -/
def sumTo (l : List UInt8) : Nat → Int
  | 0 => 0
  | n + 1 => sumTo l n + wt n (l.getD n 48)

theorem dig_all {s : ByteArray} (h : s.data.toList.all dig = true) (k : Nat) (hk : k < s.size) : 48 ≤ s[k].toNat ∧ s[k].toNat ≤ 57 := by
  have hm : s[k] ∈ s.data.toList := by
    have e : s[k] = s.data.toList[k]'(by simpa using hk) := rfl
    rw [e]; exact List.getElem_mem _
  have := List.all_eq_true.1 h _ hm
  simpa [dig] using this
theorem getD_byte (s : ByteArray) (k : Nat) (hk : k < s.size) (d : UInt8) : s.data.toList.getD k d = s[k] := by
  rw [List.getD_eq_getElem?_getD, List.getElem?_eq_getElem (by simpa using hk)]; rfl
theorem wt_bd (i : Nat) (c : UInt8) (h : 48 ≤ c.toNat ∧ c.toNat ≤ 57) : 0 ≤ wt i c ∧ wt i c ≤ 9 := by
  unfold wt dv; split <;> (try split) <;> omega
theorem sumTo_bd {s : ByteArray} (h : s.data.toList.all dig = true) (n : Nat) (hn : n ≤ s.size) : 0 ≤ sumTo s.data.toList n ∧ sumTo s.data.toList n ≤ 9 * n := by
  induction n with
  | zero => exact ⟨by simp [sumTo], by simp [sumTo]⟩
  | succ n ih =>
    have := ih (by omega)
    have hw := wt_bd n (s.data.toList.getD n 48) (by rw [getD_byte s n (by omega)]; exact dig_all h n (by omega))
    unfold sumTo
    omega

/-- The check digit of eleven digits. -/
def chkS (l : List UInt8) : Int := (10 - sumTo l 11 % 10) % 10
def digitR (s : ByteArray) : Int × Int := if dgs s 11 = true then (chkS s.data.toList, 0) else (0, 11)

theorem dgs_t {s : ByteArray} {n : Nat} (h : dgs s n = true) : s.size = n ∧ s.data.toList.all dig = true := by
  unfold dgs at h
  simpa using h

/-- The last digit is the check digit. -/
def oks (l : List UInt8) : Bool := decide ((sumTo l 11 + dv (l.getD 11 48)) % 10 = 0)
def validS (s : ByteArray) : Int := if dgs s 12 = true then (if oks s.data.toList = true then 0 else 9) else 11

theorem validR_ok {s : ByteArray} (h : dgs s 12 = true) (k : oks s.data.toList = true) : validS s = 0 := by unfold validS; rw [if_pos h, if_pos k]

theorem sumTo_append (l l' : List UInt8) (n : Nat) (h : n ≤ l.length) : sumTo (l ++ l') n = sumTo l n := by
  induction n with
  | zero => rfl
  | succ n ih =>
    unfold sumTo
    rw [ih (by omega), List.getD_eq_getElem?_getD, List.getD_eq_getElem?_getD, List.getElem?_append_left (by omega)]
theorem chk_bd (l : List UInt8) : 0 ≤ chkS l ∧ chkS l ≤ 9 := by unfold chkS; omega

end Go.Proofs.YtdoifaifhikkjaaGreatDoor
