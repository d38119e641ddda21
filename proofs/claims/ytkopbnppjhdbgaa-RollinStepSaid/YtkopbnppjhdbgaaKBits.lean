/-
  Stage 12: missed and real bits, the lowest bit, as operations on naturals, by finite tests.
-/
import Derived.Test.YtkopbnppjhdbgaaBase
import Derived.Test.YtkopbnppjhdbgaaKMath
import Derived.Laws.BitsAllLaws
import Derived.Laws.BitsLemmas
set_option linter.unusedSimpArgs false
set_option linter.unusedVariables false
namespace Go.Proofs.Ytkopbnppjhdbgaa
open Go.RowKit

theorem ofInt_i64n (a : Nat) (ha : a < 9223372036854775808) : (BitVec.ofInt 64 (a : Int)).toNat = a := by
  rw [BitVec.ofInt_natCast, BitVec.toNat_ofNat]; exact Nat.mod_eq_of_lt (by omega)
theorem andI (a b : Nat) (ha : a < 9223372036854775808) (hb : b < 9223372036854775808) : bits .and .i64 (a : Int) (b : Int) = ((a &&& b : Nat) : Int) := by
  have hx : a &&& b < 2 ^ 63 := Nat.and_lt_two_pow _ (by omega)
  show IntKind.i64.wrap ((BitVec.ofInt 64 (a : Int) &&& BitVec.ofInt 64 (b : Int)).toNat : Int) = _
  rw [BitVec.toNat_and, ofInt_i64n a ha, ofInt_i64n b hb, IntKind.wrap_i64]; omega
theorem orI (a b : Nat) (ha : a < 9223372036854775808) (hb : b < 9223372036854775808) : bits .or .i64 (a : Int) (b : Int) = ((a ||| b : Nat) : Int) := by
  have hx : a ||| b < 2 ^ 63 := Nat.or_lt_two_pow (by omega) (by omega)
  show IntKind.i64.wrap ((BitVec.ofInt 64 (a : Int) ||| BitVec.ofInt 64 (b : Int)).toNat : Int) = _
  rw [BitVec.toNat_or, ofInt_i64n a ha, ofInt_i64n b hb, IntKind.wrap_i64]; omega
theorem one_and (a : Nat) (ha : a < 9223372036854775808) : bits .and .i64 (a : Int) 1 = ((a % 2 : Nat) : Int) := by
  have e := andI a 1 ha (by decide)
  rw [Nat.and_one_is_mod] at e
  exact e
theorem cast_shr (v p : Nat) : (v : Int) / 2 ^ p = ((v / 2 ^ p : Nat) : Int) := by simp
theorem wrapI (n : Nat) (h : n < 9223372036854775808) : IntKind.i64.wrap (n : Int) = n := by
  rw [IntKind.wrap_i64]; omega
theorem wrap6 (n : Nat) (h : n < 9223372036854775808) : wrap64 (n : Int) = n := by
  unfold wrap64; omega

def mN (r : Nat) : Nat := 2 ^ r - 1
theorem mN_lt {r : Nat} (h : r ≤ 12) : mN r < 4096 := by
  have := pow_le4096 h
  have := Nat.two_pow_pos r
  unfold mN; omega
theorem pow_run {r : Nat} (h : r ≤ 12) : wrap64 (2 ^ r) = ((2 ^ r : Nat) : Int) := by
  have := pow_le4096 h
  have e : ((2 : Int) ^ r) = ((2 ^ r : Nat) : Int) := by simp
  rw [e, wrap6 _ (by omega)]
/-- The real part. -/
def rpN (r k : Nat) : Nat := k / 2 ^ r * 2 ^ r
theorem rpN_le (r k : Nat) : rpN r k ≤ k := Nat.div_mul_le_self _ _
def rpB (r : Nat) : Bool := allT (fun k => bits .andNot .i64 (k : Int) (mN r : Int) == (rpN r k : Int)) 12 0
set_option maxRecDepth 100000 in
theorem rp_all : (List.range 13).all rpB = true := by decide +kernel
theorem rp_run {r k : Nat} (hr : r ≤ 12) (hk : k < 4096) : bits .andNot .i64 (k : Int) (mN r : Int) = (rpN r k : Int) := by
  have h := List.all_eq_true.1 rp_all r (List.mem_range.2 (by omega))
  have := allT_all h hk
  simpa using this
theorem hm_run {r k : Nat} (hr : r ≤ 12) (hk : k < 4096) : bits .and .i64 (k : Int) (mN r : Int) = ((k % 2 ^ r : Nat) : Int) := by
  have hm := mN_lt hr
  rw [andI k (mN r) (by omega) (by omega)]
  unfold mN
  rw [Nat.and_two_pow_sub_one_eq_mod]
def orN (r n : Nat) : Nat := n / 2 ^ r * 2 ^ r + mN r
theorem or_run {r n : Nat} (hr : r ≤ 12) (hn : n < 9223372036854775808) : bits .or .i64 (n : Int) (mN r : Int) = (orN r n : Int) := by
  have hm := mN_lt hr
  rw [orI n (mN r) hn (by omega)]
  unfold orN mN
  refine congrArg Int.ofNat ?_
  have hp := Nat.two_pow_pos r
  have e1 := Nat.two_pow_add_eq_or_of_lt (i := r) (b := n % 2 ^ r) (Nat.mod_lt _ hp) (n / 2 ^ r)
  have e2 := Nat.two_pow_add_eq_or_of_lt (i := r) (b := 2 ^ r - 1) (by omega) (n / 2 ^ r)
  rw [Nat.div_add_mod] at e1
  rw [Nat.mul_comm (n / 2 ^ r), e2]
  conv => lhs; rw [e1]
  rw [Nat.or_assoc]
  congr 1
  have h1 : n % 2 ^ r ||| (2 ^ r - 1) < 2 ^ r := Nat.or_lt_two_pow (Nat.mod_lt _ hp) (by omega)
  have h2 := Nat.right_le_or (n := n % 2 ^ r) (m := 2 ^ r - 1)
  omega
def lowN (x : Nat) : Nat := x - (x &&& (x - 1))
def lowB (x : Nat) : Bool := x == 0 || (bits .andNot .i64 (x : Int) ((x - 1 : Nat) : Int) == (lowN x : Int) && (decide (0 < lowN x) && (decide (lowN x ≤ x) &&
  ((List.range (lowN x)).all (fun u => decide (4096 ≤ x + u) || decide (pc x ≤ pc (x + u))) && (List.range 13).all (fun r => decide (x % 2 ^ r ≠ 0) || lowN x % 2 ^ r == 0)))))
set_option maxRecDepth 100000 in
theorem low_all : allT lowB 12 0 = true := by decide +kernel
theorem low_run {x : Nat} (h : x < 4096) (h0 : x ≠ 0) : bits .andNot .i64 (x : Int) ((x - 1 : Nat) : Int) = (lowN x : Int) := by
  have e := allT_all low_all h
  unfold lowB at e
  rcases Bool.or_eq_true _ _ ▸ e with e | e
  · exact absurd (by simpa using e) h0
  · rw [Bool.and_eq_true] at e
    simpa using e.1
theorem low_bd {x : Nat} (h : x < 4096) (h0 : x ≠ 0) : 0 < lowN x ∧ lowN x ≤ x := by
  have e := allT_all low_all h
  unfold lowB at e
  rcases Bool.or_eq_true _ _ ▸ e with e | e
  · exact absurd (by simpa using e) h0
  · rw [Bool.and_eq_true, Bool.and_eq_true, Bool.and_eq_true] at e
    exact ⟨by simpa using e.2.1, by simpa using e.2.2.1⟩
theorem low_more {x u : Nat} (h : x < 4096) (h0 : x ≠ 0) (hu : u < lowN x) (hs : x + u < 4096) : pc x ≤ pc (x + u) := by
  have e := allT_all low_all h
  unfold lowB at e
  rcases Bool.or_eq_true _ _ ▸ e with e | e
  · exact absurd (by simpa using e) h0
  · rw [Bool.and_eq_true, Bool.and_eq_true, Bool.and_eq_true, Bool.and_eq_true] at e
    have := List.all_eq_true.1 e.2.2.2.1 u (List.mem_range.2 hu)
    rcases Bool.or_eq_true _ _ ▸ this with g | g
    · have : 4096 ≤ x + u := by simpa using g
      omega
    · simpa using g
theorem low_mod {x r : Nat} (h : x < 4096) (h0 : x ≠ 0) (hr : r ≤ 12) (hx : x % 2 ^ r = 0) : lowN x % 2 ^ r = 0 := by
  have e := allT_all low_all h
  unfold lowB at e
  rcases Bool.or_eq_true _ _ ▸ e with e | e
  · exact absurd (by simpa using e) h0
  · rw [Bool.and_eq_true, Bool.and_eq_true, Bool.and_eq_true, Bool.and_eq_true] at e
    have := List.all_eq_true.1 e.2.2.2.2 r (List.mem_range.2 (by omega))
    rcases Bool.or_eq_true _ _ ▸ this with g | g
    · have : x % 2 ^ r ≠ 0 := by simpa using g
      exact absurd hx this
    · simpa using g
end Go.Proofs.Ytkopbnppjhdbgaa
