/-
  Stage 2: strings of digits: the reference's digits and sum.
-/
import Derived.Test.YtgiodpepjajlmaaByts
set_option linter.unusedSimpArgs false
set_option linter.unusedVariables false
namespace Go.Proofs.Ytgiodpepjajlmaa
open Go.RowKit

theorem take_snoc (s : ByteArray) (k : Nat) (h : k < s.size) : s.data.toList.take (k + 1) = s.data.toList.take k ++ [s[k]] := by
  rw [List.take_succ_eq_append_getElem (by simpa using h)]; rfl

theorem all_snoc (s : ByteArray) (k : Nat) (h : k < s.size) : (s.data.toList.take (k + 1)).all dig = ((s.data.toList.take k).all dig && dig s[k]) := by
  rw [take_snoc s k h, List.all_append]; simp

theorem all_take (s : ByteArray) (k : Nat) (h : (s.data.toList.take k).all dig = false) : s.data.toList.all dig = false := by
  have : s.data.toList.all dig = ((s.data.toList.take k).all dig && (s.data.toList.drop k).all dig) := by rw [← List.all_append, List.take_append_drop]
  rw [this, h]; rfl

set_option maxHeartbeats 400000 in
theorem digits_any (s : ByteArray) (n : Int) (w : World) (h0 : 0 ≤ n) (h1 : n ≤ 1000) :
    Calls Try.prog 55 #[.string s, .int .i64 n] w fun e w' => e = .returned (.bool (dgs s n.toNat)) ∧ w = w' := by
  obtain ⟨N, rfl⟩ := Int.eq_ofNat_of_zero_le h0
  rw [Int.toNat_natCast]
  by_cases hs : s.size = N
  · subst hs
    have HF : Hid (dgs s s.size = s.data.toList.all dig) := Lib.hid (by unfold dgs; simp)
    go_enter Try.func55, Try.ntmps55
    go_wp2_with fail
    go_loop [5] (fun i => ∃ k : Nat, k ≤ s.size ∧ i = .int .i64 k ∧ (s.data.toList.take k).all dig = true) (fun i => s.size - (intOf i).toNat)
    case atStart => exact ⟨0, by omega, rfl, by simp⟩
    case round =>
      obtain ⟨k, hk, rfl, hall⟩ := hrel
      have HA := Lib.hid hall
      clear hall
      by_cases hlt : k < s.size
      · have HS := Lib.hid (all_snoc s k hlt)
        by_cases c1 : (s[k].toNat : Int) < 48
        · have hd : dig s[k] = false := decide_eq_false (by omega)
          have HD := Lib.hid hd
          clear hd
          go_wp2
          go_ret
          exact ⟨ret_bool (by rw [HF.out, all_take s (k + 1) (by rw [HS.out, HD.out]; simp)]), rfl⟩
        · by_cases c2 : 57 < (s[k].toNat : Int)
          · have hd : dig s[k] = false := decide_eq_false (by omega)
            have HD := Lib.hid hd
            clear hd
            go_wp2
            go_ret
            exact ⟨ret_bool (by rw [HF.out, all_take s (k + 1) (by rw [HS.out, HD.out]; simp)]), rfl⟩
          · have hd : dig s[k] = true := decide_eq_true ⟨by omega, by omega⟩
            have HD := Lib.hid hd
            clear hd
            go_wp2
            go_round
            case rel => exact ⟨k + 1, by omega, by go_num, by rw [HS.out, HA.out, HD.out]; rfl⟩
            case measure => simp [intOf]; omega
      · go_wp2
        go_ret
        exact ⟨ret_bool (by rw [HF.out]; have e : k = s.size := by omega
                            have g := HA.out; rw [e, List.take_of_length_le (by simp)] at g; exact g.symm), rfl⟩
  · have HF : Hid (dgs s N = false) := Lib.hid (by unfold dgs; simp [hs])
    have hne : ((s.size : Int) != (N : Int)) = true := by rw [bne_iff_ne]; omega
    clear hs
    go_enter Try.func55, Try.ntmps55
    go_wp2_with fail
    go_ret
    exact ⟨ret_bool HF.out.symm, rfl⟩

end Go.Proofs.Ytgiodpepjajlmaa
