/-
  Stage 3, plain: the bits of words, their syndrome and parity, the code words.
-/
import Derived.Test.YtbpgbdnfoofnaaaDoorRows
set_option linter.unusedSimpArgs false
set_option linter.unusedVariables false
namespace Go.Proofs.YtbpgbdnfoofnaaaDoor

/-- The bit p of a word. -/
def bitN (w p : Nat) : Nat := w >>> p &&& 1
theorem bitN_div (w p : Nat) : bitN w p = w / 2 ^ p % 2 := by
  unfold bitN; rw [Nat.shiftRight_eq_div_pow, Nat.and_one_is_mod]
theorem bitN_lt (w p : Nat) : bitN w p < 2 := by rw [bitN_div]; omega
theorem bitN_two (w p : Nat) : bitN w p = 0 ∨ bitN w p = 1 := by have := bitN_lt w p; omega
theorem bitN_xor (a b p : Nat) : bitN (a ^^^ b) p = bitN a p ^^^ bitN b p := by
  unfold bitN; rw [Nat.shiftRight_xor_distrib, Nat.and_xor_distrib_right]
theorem bitN_self (p : Nat) : bitN (1 <<< p) p = 1 := by
  rw [bitN_div, Nat.one_shiftLeft, Nat.div_self (Nat.two_pow_pos p)]

/-- The place of the data bit k. -/
def pl (k : Nat) : Nat := [3, 5, 6, 7, 9, 10, 11, 12, 13, 14, 15].getD k 0
theorem pl_lt (k : Nat) : pl k < 16 := by
  unfold pl
  rcases Nat.lt_or_ge k 11 with h | h
  · have : ∀ i, i < 11 → [3, 5, 6, 7, 9, 10, 11, 12, 13, 14, 15].getD i 0 < 16 := by decide
    exact this k h
  · rw [List.getD_eq_getElem?_getD, List.getElem?_eq_none (by simpa using h)]; decide

def spr (v : Nat) : Nat → Nat
  | 0 => 0
  | k + 1 => spr v k ||| bitN v k <<< pl k
def gat (w : Nat) : Nat → Nat
  | 0 => 0
  | k + 1 => gat w k ||| bitN w (pl k) <<< k
def syn (w : Nat) : Nat → Nat
  | 0 => 0
  | k + 1 => if bitN w k = 1 then syn w k ^^^ k else syn w k
def pop (w : Nat) : Nat → Nat
  | 0 => 0
  | k + 1 => pop w k + bitN w k
def chk (w s : Nat) : Nat → Nat
  | 0 => w
  | k + 1 => chk w s k ||| bitN s k <<< 2 ^ k
/-- The code word of a value. -/
def encN (v : Nat) : Nat := chk (spr v 11) (syn (spr v 11) 16) 4 ||| pop (chk (spr v 11) (syn (spr v 11) 16) 4) 16 % 2
/-- The value, the bit and the error of a word. -/
def decN (w : Nat) : Int × Int × Int :=
  if pop w 16 % 2 = 1 then (gat (w ^^^ 1 <<< syn w 16) 11, syn w 16, 0) else if syn w 16 = 0 then (gat w 11, -1, 0) else (0, 0, 9)

/-- A test of all numbers with k bits, from b on. -/
def allB (f : Nat → Bool) : Nat → Nat → Bool
  | 0, b => f b
  | k + 1, b => allB f k b && allB f k (b + 2 ^ k)
theorem allB_at (f : Nat → Bool) (k b : Nat) (h : allB f k b = true) (n : Nat) (hn : n < 2 ^ k) : f (b + n) = true := by
  induction k generalizing b n with
  | zero => obtain rfl : n = 0 := by simpa using hn
            exact h
  | succ k ih =>
    unfold allB at h
    rw [Bool.and_eq_true] at h
    rw [Nat.pow_succ] at hn
    rcases Nat.lt_or_ge n (2 ^ k) with g | g
    · exact ih b h.1 n g
    · have := ih (b + 2 ^ k) h.2 (n - 2 ^ k) (by omega)
      rwa [show b + 2 ^ k + (n - 2 ^ k) = b + n by omega] at this

def encOk (v : Nat) : Bool := encN v < 65536 && syn (encN v) 16 == 0 && pop (encN v) 16 % 2 == 0 && gat (encN v) 11 == v
set_option maxRecDepth 100000 in
theorem encOk_all : allB encOk 11 0 = true := by decide +kernel

end Go.Proofs.YtbpgbdnfoofnaaaDoor
