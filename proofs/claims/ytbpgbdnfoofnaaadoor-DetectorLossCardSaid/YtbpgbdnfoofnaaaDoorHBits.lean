/-
  Stage 3: the bits of int and uint64 as operations on naturals; the program's bitAt.
-/
import Derived.Test.YtbpgbdnfoofnaaaDoorBase
import Derived.Test.YtbpgbdnfoofnaaaDoorHMath
import Derived.Laws.BitsAllLaws
import Derived.Laws.BitsLemmas
set_option linter.unusedSimpArgs false
set_option linter.unusedVariables false
namespace Go.Proofs.YtbpgbdnfoofnaaaDoor
open Go.RowKit

theorem ofInt_i64n (a : Nat) (ha : a < 9223372036854775808) : (BitVec.ofInt 64 (a : Int)).toNat = a := by
  rw [BitVec.ofInt_natCast, BitVec.toNat_ofNat]; exact Nat.mod_eq_of_lt (by omega)
theorem andI (a b : Nat) (ha : a < 9223372036854775808) (hb : b < 9223372036854775808) : bits .and .i64 (a : Int) (b : Int) = ((a &&& b : Nat) : Int) := by
  have hx : a &&& b < 2 ^ 63 := Nat.and_lt_two_pow _ (by omega)
  show IntKind.i64.wrap ((BitVec.ofInt 64 (a : Int) &&& BitVec.ofInt 64 (b : Int)).toNat : Int) = _
  rw [BitVec.toNat_and, ofInt_i64n a ha, ofInt_i64n b hb, IntKind.wrap_i64]; omega
theorem orI (a b : Nat) (ha : a < 9223372036854775808) (hb : b < 9223372036854775808) : bits .or .i64 (a : Int) (b : Int) = ((a ||| b : Nat) : Int) := by
  have hx : a ||| b < 2 ^ 63 := Nat.or_lt_two_pow (by omega) (by omega)
  show IntKind.i64.wrap ((BitVec.ofInt 64 (a : Int) ||| BitVec.ofInt 64 (b : Int)).toNat : Int) = _
  rw [BitVec.toNat_or, ofInt_i64n a ha, ofInt_i64n b hb, IntKind.wrap_i64]; omega
theorem xorI (a b : Nat) (ha : a < 9223372036854775808) (hb : b < 9223372036854775808) : bits .xor .i64 (a : Int) (b : Int) = ((a ^^^ b : Nat) : Int) := by
  have hx : a ^^^ b < 2 ^ 63 := Nat.xor_lt_two_pow (by omega) (by omega)
  show IntKind.i64.wrap ((BitVec.ofInt 64 (a : Int) ^^^ BitVec.ofInt 64 (b : Int)).toNat : Int) = _
  rw [BitVec.toNat_xor, ofInt_i64n a ha, ofInt_i64n b hb, IntKind.wrap_i64]; omega
theorem one_and (a : Nat) (ha : a < 9223372036854775808) : bits .and .i64 (a : Int) 1 = ((a % 2 : Nat) : Int) := by
  have e := andI a 1 ha (by decide)
  rw [Nat.and_one_is_mod] at e
  exact e
theorem cast_shr (v p : Nat) : (v : Int) / 2 ^ p = ((v >>> p : Nat) : Int) := by
  rw [Nat.shiftRight_eq_div_pow]; simp
theorem shr_lt {v : Nat} (p : Nat) {b : Nat} (h : v < b) : v >>> p < b := by
  rw [Nat.shiftRight_eq_div_pow]; exact Nat.lt_of_le_of_lt (Nat.div_le_self _ _) h
theorem wrapU (n : Nat) (h : n < 18446744073709551616) : IntKind.u64.wrap (n : Int) = n := by
  simp [IntKind.wrap, IntKind.bits, IntKind.signed]; omega
theorem wrapI (n : Nat) (h : n < 9223372036854775808) : IntKind.i64.wrap (n : Int) = n := by
  rw [IntKind.wrap_i64]; omega
theorem wrap6 (n : Nat) (h : n < 9223372036854775808) : wrap64 (n : Int) = n := by
  unfold wrap64; omega

theorem bitAt_any (v p : Nat) (w : World) (hv : v < 9223372036854775808) (hp : p < 64) :
    Calls Tryd.prog 48 #[.int .i64 v, .int .i64 p] w fun e w' => e = .returned (.int .i64 (bitN v p)) ∧ w = w' := by
  go_enter Tryd.func48, Tryd.ntmps48
  go_wp2
  go_ret
  refine ⟨ret_int ?_, rfl⟩
  rw [cast_shr, one_and _ (shr_lt p hv), bitN_div, Nat.shiftRight_eq_div_pow]

/-- The count of the bits that are set, as the library reckons it. -/
def swA (x : Nat) : Nat := (x / 2 &&& 6148914691236517205) + (x &&& 6148914691236517205)
def swB (x : Nat) : Nat := (x / 4 &&& 3689348814741910323) + (x &&& 3689348814741910323)
def swC (x : Nat) : Nat := x / 16 + x &&& 1085102592571150095
def swD (x : Nat) : Nat := x + x / 256
def swE (x : Nat) : Nat := x + x / 65536
def swF (x : Nat) : Nat := x + x / 4294967296
def onesN (x : Nat) : Nat := swF (swE (swD (swC (swB (swA x))))) &&& 127
theorem swA_lt {x n : Nat} (h : x ≤ n) : swA x ≤ 2 * n := by
  unfold swA
  have h1 := Nat.and_le_left (n := x / 2) (m := 6148914691236517205)
  have h2 := Nat.and_le_left (n := x) (m := 6148914691236517205)
  omega
theorem swB_lt {x n : Nat} (h : x ≤ n) : swB x ≤ 2 * n := by
  unfold swB
  have h1 := Nat.and_le_left (n := x / 4) (m := 3689348814741910323)
  have h2 := Nat.and_le_left (n := x) (m := 3689348814741910323)
  omega
theorem swC_lt {x n : Nat} (h : x ≤ n) : swC x ≤ 2 * n := by
  unfold swC
  have h1 := Nat.and_le_left (n := x / 16 + x) (m := 1085102592571150095)
  omega
theorem swD_lt {x n : Nat} (h : x ≤ n) : swD x ≤ 2 * n := by unfold swD; omega
theorem swE_lt {x n : Nat} (h : x ≤ n) : swE x ≤ 2 * n := by unfold swE; omega
theorem swF_lt {x n : Nat} (h : x ≤ n) : swF x ≤ 2 * n := by unfold swF; omega
theorem runA {x : Nat} (h : x ≤ 1000000000000) : IntKind.u64.wrap (bits .and .u64 ((x : Int) / 2) 6148914691236517205 + bits .and .u64 (x : Int) 6148914691236517205) = (swA x : Int) := by
  have e1 := u64_and_nat (x / 2) 6148914691236517205 (by omega) (by decide)
  have e2 := u64_and_nat x 6148914691236517205 (by omega) (by decide)
  have l := swA_lt h
  have e := wrapU (swA x) (by omega)
  unfold swA at e ⊢
  rw [← e]
  refine congrArg _ ?_
  rw [Int.natCast_add, ← e1, ← e2]
  rfl
theorem runB {x : Nat} (h : x ≤ 1000000000000) : IntKind.u64.wrap (bits .and .u64 ((x : Int) / 4) 3689348814741910323 + bits .and .u64 (x : Int) 3689348814741910323) = (swB x : Int) := by
  have e1 := u64_and_nat (x / 4) 3689348814741910323 (by omega) (by decide)
  have e2 := u64_and_nat x 3689348814741910323 (by omega) (by decide)
  have l := swB_lt h
  have e := wrapU (swB x) (by omega)
  unfold swB at e ⊢
  rw [← e]
  refine congrArg _ ?_
  rw [Int.natCast_add, ← e1, ← e2]
  rfl
theorem runC {x : Nat} (h : x ≤ 1000000000000) : bits .and .u64 (IntKind.u64.wrap ((x : Int) / 16 + (x : Int))) 1085102592571150095 = (swC x : Int) := by
  have e := wrapU (x / 16 + x) (by omega)
  rw [show ((x : Int) / 16 + (x : Int)) = ((x / 16 + x : Nat) : Int) by omega, e]
  exact u64_and_nat (x / 16 + x) 1085102592571150095 (by omega) (by decide)
theorem runD {x : Nat} (h : x ≤ 1000000000000) : IntKind.u64.wrap ((x : Int) + (x : Int) / 256) = (swD x : Int) := by
  have e := wrapU (x + x / 256) (by omega)
  rw [show ((x : Int) + (x : Int) / 256) = ((x + x / 256 : Nat) : Int) by omega, e]; rfl
theorem runE {x : Nat} (h : x ≤ 1000000000000) : IntKind.u64.wrap ((x : Int) + (x : Int) / 65536) = (swE x : Int) := by
  have e := wrapU (x + x / 65536) (by omega)
  rw [show ((x : Int) + (x : Int) / 65536) = ((x + x / 65536 : Nat) : Int) by omega, e]; rfl
theorem runF {x : Nat} (h : x ≤ 1000000000000) : IntKind.u64.wrap ((x : Int) + (x : Int) / 4294967296) = (swF x : Int) := by
  have e := wrapU (x + x / 4294967296) (by omega)
  rw [show ((x : Int) + (x : Int) / 4294967296) = ((x + x / 4294967296 : Nat) : Int) by omega, e]; rfl

theorem bitN_high (k t j : Nat) (h : j < k) : bitN (2 ^ k + t) j = bitN t j := by
  obtain ⟨m, rfl⟩ : ∃ m, k = j + (m + 1) := ⟨k - j - 1, by omega⟩
  rw [bitN_div, bitN_div, Nat.pow_add, Nat.mul_add_div (Nat.two_pow_pos j), Nat.pow_succ]
  omega
theorem pop_high (K t k : Nat) (h : k ≤ K) : pop (2 ^ K + t) k = pop t k := by
  induction k with
  | zero => rfl
  | succ k ih => unfold pop; rw [ih (by omega), bitN_high K t k (by omega)]
/-- The library's count is n more than the bits below k that are set. -/
def onesB : Nat → Nat → Nat → Bool
  | 0, b, n => onesN b == n
  | k + 1, b, n => onesB k b n && onesB k (b + 2 ^ k) (n + 1)
theorem onesB_at (k b n : Nat) (h : onesB k b n = true) (t : Nat) (ht : t < 2 ^ k) : onesN (b + t) = n + pop t k := by
  induction k generalizing b n t with
  | zero =>
    obtain rfl : t = 0 := by simpa using ht
    unfold onesB at h
    simpa [pop] using h
  | succ k ih =>
    unfold onesB at h
    rw [Bool.and_eq_true] at h
    rw [Nat.pow_succ] at ht
    unfold pop
    rcases Nat.lt_or_ge t (2 ^ k) with g | g
    · have e : bitN t k = 0 := by rw [bitN_div, Nat.div_eq_of_lt g]
      rw [e]
      exact ih b n h.1 t g
    · obtain ⟨u, rfl⟩ : ∃ u, t = 2 ^ k + u := ⟨t - 2 ^ k, by omega⟩
      have e : bitN (2 ^ k + u) k = 1 := by
        rw [bitN_div, Nat.add_comm, Nat.add_div_right _ (Nat.two_pow_pos k), Nat.div_eq_of_lt (by omega)]
      rw [e, pop_high k u k (Nat.le_refl _)]
      have := ih (b + 2 ^ k) (n + 1) h.2 u (by omega)
      rw [← Nat.add_assoc, this]; omega
set_option maxRecDepth 100000 in
theorem ones_all : onesB 16 0 0 = true := by decide +kernel
theorem ones_pop {x : Nat} (h : x < 65536) : onesN x = pop x 16 := by
  have e := onesB_at 16 0 0 ones_all x (by simpa using h)
  rwa [Nat.zero_add, Nat.zero_add] at e

set_option maxRecDepth 100000 in
theorem ones64_any (x : Nat) (w : World) (hx : x < 65536) :
    Calls Tryd.prog 60 #[.int .u64 x] w fun e w' => e = .returned (.int .i64 (pop x 16)) ∧ w = w' := by
  go_enter Tryd.func60, Tryd.ntmps60
  go_wp2
  go_ret
  refine ⟨ret_int ?_, rfl⟩
  have lA := swA_lt (x := x) (n := 65536) (by omega)
  have lB := swB_lt lA
  have lC := swC_lt lB
  have lD := swD_lt lC
  have lE := swE_lt lD
  have lF := swF_lt lE
  rw [runA (by omega), runB (by omega), runC (by omega), runD (by omega), runE (by omega), runF (by omega), wrap6 _ (by omega)]
  refine (andI _ 127 (by omega) (by decide)).trans ?_
  exact congrArg Int.ofNat (ones_pop hx)

theorem ones_any (x : Nat) (w : World) (hx : x < 65536) :
    Calls Tryd.prog 57 #[.int .u64 x] w fun e w' => e = .returned (.int .i64 (pop x 16)) ∧ w = w' := by
  go_enter Tryd.func57, Tryd.ntmps57
  go_wp2_with fail
  refine (ones64_any x _ hx).mono ?_
  rintro e w' ⟨rfl, rfl⟩
  go_wp2
  go_ret
  exact ⟨rfl, rfl⟩

theorem pop_le (x k : Nat) : pop x k ≤ k := by
  induction k with
  | zero => exact Nat.le_refl _
  | succ k ih => unfold pop; have := bitN_lt x k; omega
theorem parity_any (x : Nat) (w : World) (hx : x < 65536) :
    Calls Tryd.prog 49 #[.int .i64 x] w fun e w' => e = .returned (.int .i64 ((pop x 16 % 2 : Nat) : Int)) ∧ w = w' := by
  have hw := wrapU x (by omega)
  go_enter Tryd.func49, Tryd.ntmps49
  go_wp2_with fail
  refine (ones_any x _ hx).mono ?_
  rintro e w' ⟨rfl, rfl⟩
  clear hw
  go_wp2
  go_ret
  exact ⟨ret_int (one_and _ (by have := pop_le x 16; omega)), rfl⟩
theorem isWord_any (x : Int) (w : World) :
    Calls Tryd.prog 50 #[.int .i64 x] w fun e w' => e = .returned (.bool (decide (0 ≤ x ∧ x ≤ 65535))) ∧ w = w' := by
  by_cases h0 : 0 ≤ x
  all_goals
    go_enter Tryd.func50, Tryd.ntmps50
    go_wp2
    go_ret
    exact ⟨ret_bool (by first | (simp [h0]; done) | (simp; omega)), rfl⟩
end Go.Proofs.YtbpgbdnfoofnaaaDoor
