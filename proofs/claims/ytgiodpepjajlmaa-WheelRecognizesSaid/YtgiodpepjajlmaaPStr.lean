/-
  Stage 2: the program's isDigits, sum, checks.
-/
import Derived.Test.YtgiodpepjajlmaaSum
set_option linter.unusedSimpArgs false
set_option linter.unusedVariables false
namespace Go.Proofs.Ytgiodpepjajlmaa
open Go.RowKit

set_option maxHeartbeats 400000 in
theorem pdigits_any (s : ByteArray) (n : Int) (w : World) (h0 : 0 ≤ n) (h1 : n ≤ 1000) :
    Calls Try.prog 53 #[.string s, .int .i64 n] w fun e w' => e = .returned (.bool (dgs s n.toNat)) ∧ w = w' := by
  obtain ⟨N, rfl⟩ := Int.eq_ofNat_of_zero_le h0
  rw [Int.toNat_natCast]
  by_cases hs : s.size = N
  · subst hs
    have HF : Hid (dgs s s.size = s.data.toList.all dig) := Lib.hid (by unfold dgs; simp)
    go_enter Try.func53, Try.ntmps53
    go_wp2_with fail
    go_loop [12] (fun i => ∃ k : Nat, k ≤ s.size ∧ i = .int .i64 k ∧ (s.data.toList.take k).all dig = true) (fun i => s.size - (intOf i).toNat)
    case atStart => exact ⟨0, by omega, rfl, by simp⟩
    case round =>
      obtain ⟨k, hk, rfl, hall⟩ := hrel
      have HA := Lib.hid hall
      clear hall
      by_cases hlt : k < s.size
      · have HS := Lib.hid (all_snoc s k hlt)
        by_cases c1 : (s[k].toNat : Int) < 48
        · have hd : dig s[k] = false := decide_eq_false (by omega)
          have HD := Lib.hid hd
          clear hd
          go_wp2
          go_ret
          exact ⟨ret_bool (by rw [HF.out, all_take s (k + 1) (by rw [HS.out, HD.out]; simp)]), rfl⟩
        · by_cases c2 : 57 < (s[k].toNat : Int)
          · have hd : dig s[k] = false := decide_eq_false (by omega)
            have HD := Lib.hid hd
            clear hd
            go_wp2
            go_ret
            exact ⟨ret_bool (by rw [HF.out, all_take s (k + 1) (by rw [HS.out, HD.out]; simp)]), rfl⟩
          · have hd : dig s[k] = true := decide_eq_true ⟨by omega, by omega⟩
            have HD := Lib.hid hd
            clear hd
            go_wp2
            go_round
            case rel => exact ⟨k + 1, by omega, by go_num, by rw [HS.out, HA.out, HD.out]; rfl⟩
            case measure => simp [intOf]; omega
      · go_wp2
        go_ret
        exact ⟨ret_bool (by rw [HF.out]; have e : k = s.size := by omega
                            have g := HA.out; rw [e, List.take_of_length_le (by simp)] at g; exact g.symm), rfl⟩
  · have HF : Hid (dgs s N = false) := Lib.hid (by unfold dgs; simp [hs])
    have hne : ((s.size : Int) != (N : Int)) = true := by rw [bne_iff_ne]; omega
    clear hs
    go_enter Try.func53, Try.ntmps53
    go_wp2_with fail
    go_ret
    exact ⟨ret_bool HF.out.symm, rfl⟩

set_option maxHeartbeats 800000 in
theorem psum_any (s : ByteArray) (w : World) (h2 : s.size ≤ 1000) (hd : s.data.toList.all dig = true) :
    Calls Try.prog 57 #[.string s] w fun e w' => e = .returned (.int .i64 (sumTo s.data.toList s.size)) ∧ w = w' := by
  have HD := Lib.hid hd
  clear hd
  go_enter Try.func57, Try.ntmps57
  go_wp2_with fail
  go_loop [3, 8] (fun t i => ∃ k : Nat, k ≤ s.size ∧ i = .int .i64 k ∧ t = .int .i64 (sumTo s.data.toList k)) (fun _ i => s.size - (intOf i).toNat)
  case atStart => exact ⟨0, by omega, rfl, by simp [sumTo]⟩
  case round =>
    obtain ⟨k, hk, rfl, rfl⟩ := hrel
    have hb := sumTo_bd HD.out k (by omega)
    obtain ⟨b1, b2⟩ := hb
    by_cases hlt : k < s.size
    · obtain ⟨c1, c2⟩ := dig_all HD.out k (by omega)
      have hks : k < s.size := by omega
      have HS : Hid (sumTo s.data.toList (k + 1) = sumTo s.data.toList k + wt k s[k]) := Lib.hid (by rw [sumTo, getD_byte s k hks])
      have d1 : 48 ≤ (s[k].toNat : Int) := by omega
      have d2 : (s[k].toNat : Int) ≤ 57 := by omega
      by_cases p : k % 2 = 0
      · have pe : ((k : Int) % 2 == 0) = true := beq_iff_eq.2 (by omega)
        have HW : Hid (wt k s[k] = if 9 < 2 * dv s[k] then 2 * dv s[k] - 9 else 2 * dv s[k]) := Lib.hid (by unfold wt; rw [if_pos p])
        clear p
        by_cases g : 9 < 2 * dv s[k]
        all_goals
          have HG := Lib.hid g
          have g' := g
          unfold dv at g'
          clear g
          go_wp2
          go_round
          case rel => exact ⟨k + 1, by omega, by go_num, congrArg (Value.int .i64) (by rw [HS.out, HW.out]; have hg := HG.out; unfold dv at hg ⊢; first | (rw [if_pos hg]; omega) | (rw [if_neg hg]; omega))⟩
          case measure => simp [intOf]; omega
      · have pe : ((k : Int) % 2 == 0) = false := beq_eq_false_iff_ne.2 (by omega)
        have HW : Hid (wt k s[k] = dv s[k]) := Lib.hid (by unfold wt; rw [if_neg p])
        clear p
        go_wp2
        go_round
        case rel => exact ⟨k + 1, by omega, by go_num, congrArg (Value.int .i64) (by rw [HS.out, HW.out]; unfold dv; omega)⟩
        case measure => simp [intOf]; omega
    · obtain rfl : s.size = k := by omega
      go_wp2
      go_ret
      exact ⟨rfl, rfl⟩

/-- The sum of all bytes is a multiple of ten. -/
def okP (s : ByteArray) : Bool := decide (sumTo s.data.toList s.size % 10 = 0)

set_option maxHeartbeats 400000 in
theorem pchecks_any (s : ByteArray) (w : World) (h2 : s.size ≤ 1000) (hd : s.data.toList.all dig = true) :
    Calls Try.prog 54 #[.string s] w fun e w' => e = .returned (.bool (okP s)) ∧ w = w' := by
  have hb := sumTo_bd hd s.size (by omega)
  obtain ⟨b1, b2⟩ := hb
  have HD := Lib.hid hd
  have WC : (sumTo s.data.toList s.size).tmod 10 = sumTo s.data.toList s.size % 10 := IntWalk.rem_in _ _ (by omega)
  by_cases g : sumTo s.data.toList s.size % 10 = 0
  · have g' : (sumTo s.data.toList s.size % 10 == 0) = true := by simp [g]
    have HF : Hid (okP s = true) := Lib.hid (by unfold okP; exact decide_eq_true g)
    clear hd g
    go_enter Try.func54, Try.ntmps54
    go_wp2_with fail
    refine (psum_any _ _ h2 HD.out).mono ?_
    rintro e w' ⟨rfl, rfl⟩
    go_wp2_with fail
    go_ret
    exact ⟨ret_bool HF.out.symm, rfl⟩
  · have g' : (sumTo s.data.toList s.size % 10 == 0) = false := by simp [g]
    have HF : Hid (okP s = false) := Lib.hid (by unfold okP; exact decide_eq_false g)
    clear hd g
    go_enter Try.func54, Try.ntmps54
    go_wp2_with fail
    refine (psum_any _ _ h2 HD.out).mono ?_
    rintro e w' ⟨rfl, rfl⟩
    go_wp2_with fail
    go_ret
    exact ⟨ret_bool HF.out.symm, rfl⟩

/-- Of twelve digits the sum is that of the first eleven and the last. -/
theorem okP_12 {s : ByteArray} (h : s.size = 12) : okP s = oks s.data.toList := by
  unfold okP oks
  rw [h]
  have e : sumTo s.data.toList 12 = sumTo s.data.toList 11 + dv (s.data.toList.getD 11 48) := by
    rw [sumTo]; unfold wt; rw [if_neg (by decide)]
  rw [e]

end Go.Proofs.Ytgiodpepjajlmaa
