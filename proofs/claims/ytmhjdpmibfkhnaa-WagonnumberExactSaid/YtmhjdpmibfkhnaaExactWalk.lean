/-
  The walk of WagonnumberExact.
-/
import Derived.Test.YtmhjdpmibfkhnaaExchangeWalk
set_option linter.unusedSimpArgs false
set_option linter.unusedVariables false
namespace Go.Proofs.Ytmhjdpmibfkhnaa
open Go.RowKit

theorem repsP_len (s : ByteArray) : (repsP s).1.length ≤ 1000 := by
  unfold repsP
  split
  · rw [srtB_len]; exact repL_len s
  · simp

set_option maxHeartbeats 1600000 in
/-- The law's comparison of all functions. -/
theorem exact_any (s : ByteArray) (w : World) : Calls Try.prog 12 #[.string s] w fun e w' => e = .returned (.bool true) ∧ Below w.heap.size w w' := by
  go_enter Try.func12, Try.ntmps12
  go_wp2_with fail
  refine (pdigit_any _ _).mono ?_
  rintro e w' ⟨rfl, rfl⟩
  go_wp2_with fail
  refine (rdigit_any _ _).mono ?_
  rintro e w' ⟨rfl, rfl⟩
  generalize digitR s = a
  go_wp2_with fail
  refine (pvalid_any _ _).mono ?_
  rintro e w' ⟨rfl, rfl⟩
  go_wp2_with fail
  refine (rvalid_any _ _).mono ?_
  rintro e w' ⟨rfl, n1, rfl⟩
  generalize validR s = b
  go_wp2_with fail
  refine (pkind_any _ _).mono ?_
  rintro e w' ⟨rfl, rfl⟩
  go_wp2_with fail
  refine (rkind_any _ _).mono ?_
  rintro e w' ⟨rfl, n2, rfl⟩
  generalize kindR s = c
  go_wp2_with fail
  refine (pformat_any _ _).mono ?_
  rintro e w' ⟨rfl, n3, rfl⟩
  go_wp2_with fail
  refine (rformat_any _ _).mono ?_
  rintro e w' ⟨rfl, n4, rfl⟩
  generalize formatR s = d
  go_wp2_with fail
  refine (pparse_any _ _).mono ?_
  rintro e w' ⟨rfl, n5, rfl⟩
  go_wp2_with fail
  refine (rparse_any _ _).mono ?_
  rintro e w' ⟨rfl, n6, rfl⟩
  generalize parseR s = f
  have hl := repsP_len s
  go_wp2_with fail
  refine (prepairs_any _ _).mono ?_
  rintro e w1 ⟨v1, rfl, O1, B⟩
  have B1 : Below w.heap.size w w1 := ⟨B.os, B.tape, B.output, B.size, B.block⟩
  clear B
  go_wp2_with fail
  refine (rrepairs_any _ _).mono ?_
  rintro e w2 ⟨v2, rfl, O2, B⟩
  have O1' := Strs.below O1 B
  have B2 : Below w.heap.size w w2 := B1.trans (B.mono B1.size)
  generalize repsP s = r at *
  clear O1 B B1
  go_wp2_with fail
  refine (strings_same r.1 v1 v2 _ _ _ O1' O2 hl).mono ?_
  rintro e w' ⟨rfl, n7, rfl⟩
  go_wp2_with fail
  go_ret
  exact ⟨rfl, bdn B2⟩

set_option maxHeartbeats 3200000 in
theorem exact_walk (t : Option Addr) (len cap : Nat) (zs : List Int) (x : ByteArray) (w : World) (h : IsRow .i64 w t len cap zs) :
    Calls Try.prog 3 #[.slice t len cap, .string x] w fun e w' => e = .returned (.bool true) ∧ Below w.heap.size w w' := by
  have R0 := Rnd.new (T := 43) h
  go_enter Try.func3, Try.ntmps3
  go_wp2_with fail
  refine (new_any t len cap _).mono ?_
  rintro e w0 ⟨rfl, rfl⟩
  go_wp2_with fail
  go_loopw [6] (fun i wr => ∃ k : Nat, k ≤ 4 ∧ i = .int .i64 k ∧ Rnd w wr (100 * k)) (fun i _ => 4 - (intOf i).toNat)
  case atStart => exact ⟨0, by omega, rfl, R0⟩
  case round =>
    obtain ⟨k, hk, rfl, R⟩ := hrel
    clear R0
    by_cases hlt : k < 4
    · go_wp2_with fail
      refine (mnumber_any w.heap.size (100 * k) k _ R.mkr (by omega) (by omega) (by omega)).mono ?_
      rintro e w1 ⟨s, rfl, hs, k1, k2⟩
      have R1 := R.step k2 k1
      clear R k1 k2
      obtain ⟨g1, g2, g3⟩ := num_ok_of hs
      have hz := (dgs_t g1).1
      have hfz := fmt_size hz
      clear hs g1 g2
      go_wp2_with fail
      refine (rformat_any _ _).mono ?_
      rintro e w' ⟨rfl, n, rfl⟩
      rw [show formatR s = (fmtS s, 0) from if_pos g3]
      have R2 := R1.drewN (n := n)
      generalize w1.drewN n = w2 at *
      clear R1 g3
      have q0 : (11 : Int) ≤ (s.size : Int) := by omega
      go_wp2_with fail
      refine (exact_any _ _).mono ?_
      rintro e w3 ⟨rfl, B⟩
      have R3 := R2.below B
      clear R2 B
      go_wp2_with fail
      refine (exact_any _ _).mono ?_
      rintro e w4 ⟨rfl, B⟩
      have R4 := R3.below B
      clear R3 B
      go_wp2_with fail
      refine (exact_any _ _).mono ?_
      rintro e w5 ⟨rfl, B⟩
      have R5 := R4.below B
      clear R4 B
      go_wp2_with fail
      refine (mspoil_any w.heap.size _ s _ R5.mkr (by omega) (by omega)).mono ?_
      rintro e w6 ⟨y1, rfl, hy1, k1, k2⟩
      have R6 := R5.step k2 k1
      clear R5 k1 k2 hy1
      go_wp2_with fail
      refine (exact_any _ _).mono ?_
      rintro e w7 ⟨rfl, B⟩
      have R7 := R6.below B
      clear R6 B
      go_wp2_with fail
      refine (mspoil_any w.heap.size _ (fmtS s) _ R7.mkr (by omega) (by omega)).mono ?_
      rintro e w8 ⟨y2, rfl, hy2, k1, k2⟩
      have R8 := R7.step k2 k1
      clear R7 k1 k2 hy2
      go_wp2_with fail
      refine (exact_any _ _).mono ?_
      rintro e w9 ⟨rfl, B⟩
      have R9 := R8.below B
      clear R8 B
      go_wp2_with fail
      refine (mdigits_any w.heap.size _ 12 _ R9.mkr (by omega) (by omega)).mono ?_
      rintro e w10 ⟨y3, rfl, hy3, k1, k2⟩
      have R10 := R9.step k2 k1
      clear R9 k1 k2 hy3
      go_wp2_with fail
      refine (exact_any _ _).mono ?_
      rintro e w11 ⟨rfl, B⟩
      have R11 := R10.below B
      clear R10 B
      go_wp2_with fail
      exact ⟨⟨k + 1, by omega, by go_num, R11.more (by omega)⟩, by simp [intOf]; omega⟩
    · obtain rfl : k = 4 := by omega
      have B1 := R.bel
      clear R
      by_cases hx : (60 : Int) < (x.size : Int)
      · go_wp2_with fail
        go_ret
        exact ⟨rfl, B1⟩
      · go_wp2_with fail
        refine (exact_any _ _).mono ?_
        rintro e w3 ⟨rfl, B2⟩
        have B3 := B1.trans (B2.mono B1.size)
        go_wp2_with fail
        refine (sane_any _).mono ?_
        rintro e w4 ⟨rfl, B4⟩
        go_wp2_with fail
        go_ret
        exact ⟨rfl, B3.trans (B4.mono B3.size)⟩

end Go.Proofs.Ytmhjdpmibfkhnaa
