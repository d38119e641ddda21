/-
  The walk of WagonnumberOneDigit.
-/
import Derived.Test.YtmhjdpmibfkhnaaExchangeWalk
set_option linter.unusedSimpArgs false
set_option linter.unusedVariables false
namespace Go.Proofs.Ytmhjdpmibfkhnaa
open Go.RowKit

/-- Whether the string is among the first k. -/
def hasS (l : List ByteArray) (s : ByteArray) (k : Nat) : Bool := (l.take k).any fun x => x.toList == s.toList
theorem hasS_zero (l : List ByteArray) (s : ByteArray) : hasS l s 0 = false := by unfold hasS; simp
theorem hasS_succ (l : List ByteArray) (s : ByteArray) (k : Nat) (hk : k < l.length) : hasS l s (k + 1) = (hasS l s k || (l[k].toList == s.toList)) := by
  unfold hasS
  rw [List.take_succ_eq_append_getElem hk, List.any_append]
  simp
theorem hasS_mem {l : List ByteArray} {s : ByteArray} (h : s ∈ l) : hasS l s l.length = true := by
  unfold hasS
  rw [List.take_length, List.any_eq_true]
  exact ⟨s, h, by simp⟩

/-- The number is found again. -/
theorem back_again {s : ByteArray} (h : dgs s 12 = true) (ok : okP s = true) (i k : Nat) (hi : i < 12) (hk : k < 10) (n : 48 + k ≠ (bt s i).toNat) : s ∈ (repsP (rep1 s i k)).1 ∧ (repsP (rep1 s i k)).2 = 0 := by
  have hz := (dgs_t h).1
  have hr := dgs_rep h i k hi hk
  have hrz := (dgs_t hr).1
  obtain ⟨d1, d2⟩ := dgt_lt h i hi
  have e : rep1 (rep1 s i k) i (dgt s i) = s := by
    refine bt_ext (rep_size hrz i _ hi) hz fun j hj => ?_
    rw [bt_rep hrz i _ j hi, bt_rep hz i k j hi]
    by_cases c : j = i
    · subst c; rw [if_pos rfl]
      apply UInt8.toNat_inj.1; rw [dg_nat _ d1, d2]
    · rw [if_neg c, if_neg c]
  unfold repsP
  rw [if_pos hr]
  refine ⟨mem_srtB.2 (mem_repL.2 (Or.inl ⟨i, dgt s i, hi, d1, ?_, by rw [e]; exact ok, e.symm⟩)), rfl⟩
  rw [bt_rep hz i k i hi, if_pos rfl, dg_nat k hk]
  omega

set_option maxHeartbeats 1600000 in
theorem onedigit_walk (t : Option Addr) (len cap : Nat) (zs : List Int) (p q : Int) (w : World) (h : IsRow .i64 w t len cap zs) (bd : -9223372036854775808 ≤ p ∧ p ≤ 9223372036854775807) (bq : -9223372036854775808 ≤ q ∧ q ≤ 9223372036854775807) :
    Calls Try.prog 4 #[.slice t len cap, .int .i64 p, .int .i64 q] w fun e w' => e = .returned (.bool true) ∧ Below w.heap.size w w' := by
  have R0 := Rnd.new (T := 43) h
  have tb := tmod_bd p 12 (by decide)
  have te : (p.tmod 12 + 12).tmod 12 = (p.tmod 12 + 12) % 12 := IntWalk.rem_in _ _ (by omega)
  obtain ⟨K, hK⟩ : ∃ K : Nat, (p.tmod 12 + 12) % 12 = K := ⟨((p.tmod 12 + 12) % 12).toNat, by omega⟩
  have hK12 : K < 12 := by omega
  have HW : Hid ((wrap64 (p.tmod 12 + 12)).tmod 12 = (K : Int)) := Lib.hid (by rw [IntWalk.wrap64_in _ (by omega), te, hK])
  have ub := tmod_bd q 9 (by decide)
  have ue : (q.tmod 9 + 9).tmod 9 = (q.tmod 9 + 9) % 9 := IntWalk.rem_in _ _ (by omega)
  obtain ⟨Q, hQ⟩ : ∃ Q : Nat, (q.tmod 9 + 9) % 9 = Q := ⟨((q.tmod 9 + 9) % 9).toNat, by omega⟩
  have hQ9 : Q < 9 := by omega
  have HU : Hid ((wrap64 (q.tmod 9 + 9)).tmod 9 = (Q : Int)) := Lib.hid (by rw [IntWalk.wrap64_in _ (by omega), ue, hQ])
  clear te tb hK ue ub hQ bd bq
  go_enter Try.func4, Try.ntmps4
  go_wp2_with fail
  refine (new_any t len cap _).mono ?_
  rintro e w0 ⟨rfl, rfl⟩
  go_wp2_with fail
  refine (mnumber_any w.heap.size 0 1 _ R0.mkr (by omega) (by omega) (by omega)).mono ?_
  rintro e w1 ⟨s, rfl, hs, k1, k2⟩
  have R1 := R0.step k2 k1
  clear R0 k1 k2 h
  obtain ⟨g1, g2, g3⟩ := num_ok_of hs
  clear hs
  have hz := (dgs_t g1).1
  have hks : K < s.size := by omega
  have b0 := getD_byte s K hks 48
  obtain ⟨d1, d2⟩ := dgt_lt g1 K hK12
  have d3 : s[K].toNat = 48 + dgt s K := by rw [← d2]; exact congrArg UInt8.toNat b0.symm
  have HG := Lib.hid (And.intro g1 (And.intro g2 d2))
  generalize dgt s K = x at *
  clear g1 g2 b0 d2
  have q0 : (0 : Int) ≤ (K : Int) := by omega
  have q1 : (K : Int) ≤ 12 := by omega
  have q2 : (0 : Int) ≤ (K : Int) + 1 := by omega
  have q3 : (K : Int) + 1 ≤ 12 := by omega
  have q3' : (K : Int) < 12 := by omega
  have q4 : IntKind.i64.wrap ((K : Int) + 1) = (K : Int) + 1 := IntWalk.i64_in _ (by omega)
  go_upto_region 3 with fail
  rw [HW.out]
  go_upto_region 4 with fail
  have HD : Hid ((wrap64 (48 + (x : Int) - 48 + 1 + (wrap64 (q.tmod 9 + 9)).tmod 9)).tmod 10 = (((x + 1 + Q) % 10 : Nat) : Int)) := Lib.hid (by
    rw [HU.out, IntWalk.wrap64_in _ (by omega), IntWalk.rem_in _ _ (by omega)]; omega)
  rw [HD.out]
  have e1 : (x + 1 + Q) % 10 < 10 := by omega
  have e2 : (x + 1 + Q) % 10 ≠ x := by omega
  generalize (x + 1 + Q) % 10 = D at *
  clear HU HW
  obtain ⟨g1, g2, g3'⟩ := HG.out
  have hne : 48 + D ≠ (bt s K).toNat := by omega
  obtain ⟨hm, h0⟩ := back_again g1 g2 K D hK12 e1 hne
  have ev : validR (rep1 s K D) = 9 := by rw [validR_12 (dgs_rep g1 K D hK12 e1), rep_bad g1 g2 K D hK12 e1 hne]; rfl
  clear g1 g2 g3' hne HG d3
  have q6 : (strOfNums [48 + (D : Int)]).size = 1 := by rw [strOfNums_size]; rfl
  have q7 : IntKind.i64.wrap (48 + (D : Int)) = 48 + (D : Int) := IntWalk.i64_in _ (by omega)
  have q8 : IntKind.u8.wrap (48 + (D : Int)) = 48 + (D : Int) := IntWalk.u8_in _ (by omega)
  have HQ : Hid (s.extract 0 K ++ strOfNums [48 + (D : Int)] ++ s.extract (K + 1) 12 = rep1 s K D) := Lib.hid rfl
  have hob := fun v => one_byte_drew w1 v
  have B2 := (R1.alloc (.cells #[.int .u8 (48 + (D : Int))] 5)).drew.bel
  clear R1
  go_region
  go_upto_region 5 with fail
  rw [HQ.out]
  generalize (w1.alloc (.cells #[.int .u8 (48 + (D : Int))] 5)).drew = w2 at *
  clear hob q6 q7 q8 HQ
  go_wp2_with fail
  refine (pvalid_any _ _).mono ?_
  rintro e w' ⟨rfl, rfl⟩
  go_wp2_with fail
  refine (pvalid_any _ _).mono ?_
  rintro e w' ⟨rfl, rfl⟩
  go_wp2_with fail
  refine (prepairs_any _ _).mono ?_
  rintro e w3 ⟨v, rfl, O, B⟩
  rw [h0]
  have B3 : Below w.heap.size w w3 := B2.trans (B.mono B2.size)
  generalize (repsP (rep1 s K D)).1 = l at *
  have L0 : 0 < l.length := List.length_pos_of_mem hm
  obtain ⟨g, cp, rfl, hg1, hg2, hg3, hg4⟩ := Strs.form' O L0
  have HO := Lib.hid O
  have HM := Lib.hid (hasS_mem hm)
  have hl63 : l.length ≤ maxLen := by omega
  unfold maxLen at hl63
  clear O B B2 hm hg1 hg2 ev g3 h0
  go_wp2_with fail
  go_loopw [12, 63] (fun f i wr => ∃ k : Nat, k ≤ l.length ∧ i = .int .i64 k ∧ f = .bool (hasS l s k) ∧ w3 = wr) (fun _ i _ => l.length - (intOf i).toNat)
  case atStart => exact ⟨0, by omega, rfl, by rw [hasS_zero], rfl⟩
  case round =>
    obtain ⟨k, hk, rfl, rfl, rfl⟩ := hrel
    by_cases hlt : k < l.length
    · have hc : w3.cell? ⟨g, k, none⟩ = some (.string l[k]) := by rw [HO.out.cellAt k (by omega)]; simp [hlt]
      have HS := Lib.hid (hasS_succ l s k hlt)
      have r0 : (0 : Int) ≤ (k : Int) := by omega
      have r1 : (k : Int) < (l.length : Int) := by omega
      cases hf : hasS l s k
      · go_wp2_with fail
        exact ⟨⟨k + 1, by omega, by go_num, congrArg Value.bool (by rw [HS.out, hf]; simp), trivial⟩, by simp [intOf]; omega⟩
      · go_wp2_with fail
        exact ⟨⟨k + 1, by omega, by go_num, congrArg Value.bool (by rw [HS.out, hf]; simp), trivial⟩, by simp [intOf]; omega⟩
    · obtain rfl : k = l.length := by omega
      rw [HM.out]
      go_wp2_with fail
      refine (sane_any _).mono ?_
      rintro e w' ⟨rfl, B4⟩
      go_wp2_with fail
      go_ret
      exact ⟨rfl, B3.trans (B4.mono B3.size)⟩

end Go.Proofs.Ytmhjdpmibfkhnaa
