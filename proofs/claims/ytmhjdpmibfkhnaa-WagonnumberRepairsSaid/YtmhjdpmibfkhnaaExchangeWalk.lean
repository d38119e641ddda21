/-
  The walk of WagonnumberExchange.
-/
import Derived.Test.YtmhjdpmibfkhnaaSane
import Derived.Test.YtmhjdpmibfkhnaaMkSpoil
set_option linter.unusedSimpArgs false
set_option linter.unusedVariables false
namespace Go.Proofs.Ytmhjdpmibfkhnaa
open Go.RowKit

/-- What the law calls special is what the check digit lets by: the six ways to find out. -/
theorem special {s : ByteArray} (h : dgs s 12 = true) (ok : okP s = true) (K : Nat) (hK : K < 11) (x y : UInt8) (hx : bt s K = x) (hy : bt s (K + 1) = y) :
    (((x.toNat : Int) == (y.toNat : Int)) = true ∧ okP (exc1 s K) = true) ∨
    (((x.toNat : Int) == (y.toNat : Int)) = false ∧ ((x.toNat : Int) == 48) = true ∧ ((y.toNat : Int) == 57) = true ∧ okP (exc1 s K) = true) ∨
    (((x.toNat : Int) == (y.toNat : Int)) = false ∧ ((x.toNat : Int) == 48) = true ∧ ((y.toNat : Int) == 57) = false ∧ ((x.toNat : Int) == 57) = false ∧ okP (exc1 s K) = false) ∨
    (((x.toNat : Int) == (y.toNat : Int)) = false ∧ ((x.toNat : Int) == 48) = false ∧ ((x.toNat : Int) == 57) = true ∧ ((y.toNat : Int) == 48) = true ∧ okP (exc1 s K) = true) ∨
    (((x.toNat : Int) == (y.toNat : Int)) = false ∧ ((x.toNat : Int) == 48) = false ∧ ((x.toNat : Int) == 57) = true ∧ ((y.toNat : Int) == 48) = false ∧ okP (exc1 s K) = false) ∨
    (((x.toNat : Int) == (y.toNat : Int)) = false ∧ ((x.toNat : Int) == 48) = false ∧ ((x.toNat : Int) == 57) = false ∧ okP (exc1 s K) = false) := by
  have e := exc_ok h ok K hK
  rw [hx, hy] at e
  have t : ∀ {b : Bool}, (b = true ↔ False) → b = false := fun {b} h => by cases b <;> simp_all
  simp only [beq_iff_eq, beq_eq_false_iff_ne]
  by_cases c0 : x.toNat = y.toNat
  · exact Or.inl ⟨by omega, e.2 (Or.inl c0)⟩
  · refine Or.inr ?_
    by_cases c1 : x.toNat = 48
    · by_cases c2 : y.toNat = 57
      · exact Or.inl ⟨by omega, by omega, by omega, e.2 (Or.inr (Or.inl ⟨c1, c2⟩))⟩
      · exact Or.inr (Or.inl ⟨by omega, by omega, by omega, by omega, t ⟨fun g => by have := e.1 g; omega, False.elim⟩⟩)
    · by_cases c3 : x.toNat = 57
      · by_cases c4 : y.toNat = 48
        · exact Or.inr (Or.inr (Or.inl ⟨by omega, by omega, by omega, by omega, e.2 (Or.inr (Or.inr ⟨c3, c4⟩))⟩))
        · exact Or.inr (Or.inr (Or.inr (Or.inl ⟨by omega, by omega, by omega, by omega, t ⟨fun g => by have := e.1 g; omega, False.elim⟩⟩)))
      · exact Or.inr (Or.inr (Or.inr (Or.inr ⟨by omega, by omega, by omega, t ⟨fun g => by have := e.1 g; omega, False.elim⟩⟩)))
/-- A number of the maker's. -/
theorem num_ok_of {i : Int} {s : ByteArray} (h : IsNum i s) : dgs s 12 = true ∧ okP s = true ∧ validR s = 0 := by
  obtain ⟨h1, h2, _⟩ := h
  refine ⟨h1, ?_, h2⟩
  rw [validR_12 h1] at h2
  cases e : okP s with
  | true => rfl
  | false => rw [e] at h2; cases h2

set_option maxHeartbeats 1600000 in
theorem exchange_walk (t : Option Addr) (len cap : Nat) (zs : List Int) (p : Int) (w : World) (h : IsRow .i64 w t len cap zs) (bd : -9223372036854775808 ≤ p ∧ p ≤ 9223372036854775807) :
    Calls Try.prog 6 #[.slice t len cap, .int .i64 p] w fun e w' => e = .returned (.bool true) ∧ Below w.heap.size w w' := by
  have R0 := Rnd.new (T := 43) h
  have tb := tmod_bd p 11 (by decide)
  have te : (p.tmod 11 + 11).tmod 11 = (p.tmod 11 + 11) % 11 := IntWalk.rem_in _ _ (by omega)
  obtain ⟨K, hK⟩ : ∃ K : Nat, (p.tmod 11 + 11) % 11 = K := ⟨((p.tmod 11 + 11) % 11).toNat, by omega⟩
  have hK11 : K < 11 := by omega
  have HW : Hid ((wrap64 (p.tmod 11 + 11)).tmod 11 = (K : Int)) := Lib.hid (by rw [IntWalk.wrap64_in _ (by omega), te, hK])
  go_enter Try.func6, Try.ntmps6
  go_wp2_with fail
  refine (new_any t len cap _).mono ?_
  rintro e w0 ⟨rfl, rfl⟩
  go_wp2_with fail
  refine (mnumber_any w.heap.size 0 2 _ R0.mkr (by omega) (by omega) (by omega)).mono ?_
  rintro e w1 ⟨s, rfl, hs, k1, k2⟩
  have R1 := R0.step k2 k1
  clear R0 k1 k2
  obtain ⟨g1, g2, g3⟩ := num_ok_of hs
  clear hs te tb bd h hK
  have hz := (dgs_t g1).1
  have hks : K < s.size := by omega
  have hk1 : K + 1 < s.size := by omega
  have b0 := getD_byte s K hks 48
  have b1 := getD_byte s (K + 1) hk1 48
  have HQ : Hid (s.extract 0 K ++ strOfNums [(s[K + 1].toNat : Int), (s[K].toNat : Int)] ++ s.extract (K + 2) 12 = exc1 s K) := Lib.hid (by rw [← b0, ← b1]; exact exc_ref hz K hK11)
  have SP := special g1 g2 K hK11 _ _ b0 b1
  have HV := Lib.hid (validR_12 (dgs_exc g1 K hK11))
  clear b0 b1 g1 g2
  have q0 : (0 : Int) ≤ (K : Int) := by omega
  have q1 : (K : Int) ≤ 12 := by omega
  have q2 : (0 : Int) ≤ (K : Int) + 1 := by omega
  have q3 : (K : Int) + 1 < 12 := by omega
  have q3' : (K : Int) < 12 := by omega
  have q4 : IntKind.i64.wrap ((K : Int) + 1) = (K : Int) + 1 := IntWalk.i64_in _ (by omega)
  have q5 : IntKind.i64.wrap ((K : Int) + 2) = (K : Int) + 2 := IntWalk.i64_in _ (by omega)
  have q6 : (strOfNums [(s[K + 1].toNat : Int), (s[K].toNat : Int)]).size = 2 := by rw [strOfNums_size]; rfl
  have q7 : (0 : Int) ≤ (K : Int) + 2 := by omega
  have q8 : (K : Int) + 2 ≤ 12 := by omega
  have hob := fun a b => two_bytes_drew w1 a b
  have B2 := (R1.alloc (.cells #[.int .u8 s[K + 1].toNat, .int .u8 s[K].toNat] 5)).drew.bel
  clear R1
  go_upto_region 3 with fail
  rw [HW.out]
  go_region
  go_upto_region 4 with fail
  rw [HQ.out]
  generalize (w1.alloc (.cells #[.int .u8 s[K + 1].toNat, .int .u8 s[K].toNat] 5)).drew = w2 at *
  clear hob HQ q6
  rcases SP with ⟨f0, ho⟩ | ⟨f0, f1, f2, ho⟩ | ⟨f0, f1, f2, f3, ho⟩ | ⟨f0, f1, f3, f4, ho⟩ | ⟨f0, f1, f3, f4, ho⟩ | ⟨f0, f1, f3, ho⟩
  all_goals
    have ev : validR (exc1 s K) = if okP (exc1 s K) = true then 0 else 9 := HV.out
    rw [ho] at ev
    simp only [if_true, if_false, Bool.false_eq_true] at ev
    clear ho HV
    go_quiet (fail)
    go_wp2_with fail
    refine (pvalid_any _ _).mono ?_
    rintro e w' ⟨rfl, rfl⟩
    go_wp2_with fail
    refine (pvalid_any _ _).mono ?_
    rintro e w' ⟨rfl, rfl⟩
    go_wp2_with fail
    refine (sane_any _).mono ?_
    rintro e w' ⟨rfl, B3⟩
    go_wp2_with fail
    go_ret
    exact ⟨rfl, B2.trans (Below.mono ⟨B3.os, B3.tape, B3.output, B3.size, B3.block⟩ B2.size)⟩

end Go.Proofs.Ytmhjdpmibfkhnaa
