/-
  Stage 6: the reader's number. Written by tools/gen_cnum.py.
-/
import Derived.Test.YtgiodpepjajlmaaCRd
set_option linter.unusedSimpArgs false
set_option linter.unusedVariables false
namespace Go.Proofs.Ytgiodpepjajlmaa
open Go.RowKit

/-- The digits of bytes, and whether one is none. -/
def numB : List Int → List Int
  | [] => []
  | x :: l => (48 + x / 16) :: (48 + x % 16) :: numB l
def badB : List Int → Bool
  | [] => false
  | x :: l => (decide (9 < x / 16) || decide (9 < x % 16)) || badB l
theorem numB_app (a b : List Int) : numB (a ++ b) = numB a ++ numB b := by
  induction a with
  | nil => rfl
  | cons x a ih => show _ :: _ :: numB (a ++ b) = _; rw [ih]; rfl
theorem badB_app (a b : List Int) : badB (a ++ b) = (badB a || badB b) := by
  induction a with
  | nil => simp [badB]
  | cons x a ih => show (_ || badB (a ++ b)) = _; rw [ih]; simp [badB, Bool.or_assoc]
theorem numB_len (a : List Int) : (numB a).length = 2 * a.length := by
  induction a with
  | nil => rfl
  | cons x a ih => show (numB a).length + 1 + 1 = _; rw [ih, List.length_cons]; omega
theorem numB_one (a : List Int) (x : Int) : numB (a ++ [x]) = numB a ++ [48 + x / 16, 48 + x % 16] := numB_app a [x]
theorem badB_one (a : List Int) (x : Int) : badB (a ++ [x]) = (badB a || (decide (9 < x / 16) || decide (9 < x % 16))) := by
  rw [badB_app]; simp [badB]
theorem and_15' : ∀ a : Fin 256, bits BinOp.and IntKind.u8 ((a : Nat) : Int) 15 = ((a : Nat) : Int) % 16 := by decide +kernel
theorem and_15 {a : Int} (h0 : 0 ≤ a) (h1 : a ≤ 255) : bits BinOp.and IntKind.u8 a 15 = a % 16 := by
  obtain ⟨x, rfl⟩ := Int.eq_ofNat_of_zero_le h0
  have := and_15' ⟨x, by omega⟩
  exact this
def nmV (bs : List Int) (n : Nat) : ByteArray := strOfNums (numB (tkV bs n 6))
def nmG (bs : List Int) (n : Nat) : Bool := badB (tkV bs n 6)
def NmPost (p : Nat) (A : Option Addr) (c : Nat) (bs : List Int) (v : ByteArray) (n' : Nat) (s' g' : Bool) (w : World) (e : Ending) (w' : World) : Prop :=
  e = .returned (.string v) ∧ Rd w' p A c bs n' s' g' ∧ Moves p w w'
theorem take_get {xs : List Int} {k : Nat} (hk : k < xs.length) : xs.take (k + 1) = xs.take k ++ [xs.getD k 0] := by
  rw [List.take_succ_eq_append_getElem hk, List.getD_eq_getElem?_getD, List.getElem?_eq_getElem hk, Option.getD_some]
end Go.Proofs.Ytgiodpepjajlmaa
