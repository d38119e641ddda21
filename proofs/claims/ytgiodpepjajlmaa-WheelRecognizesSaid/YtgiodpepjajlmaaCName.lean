/-
  Stage 6: the names, the kinds and the ranges of wagons: the program and the reference.
-/
import Derived.Test.YtgiodpepjajlmaaCWag
import Derived.Test.YtgiodpepjajlmaaPFmt
set_option linter.unusedSimpArgs false
set_option linter.unusedVariables false
namespace Go.Proofs.Ytgiodpepjajlmaa
open Go.RowKit

theorem nm_false {s : ByteArray} {k : Nat} (h : (s.data.toList.take k).all nmc = false) : nameS s = false := by
  unfold nameS; rw [nm_take s k h, Bool.and_false]
set_option maxHeartbeats 800000 in
theorem pname_any (s : ByteArray) (w : World) :
    Calls Try.prog 46 #[.string s] w fun e w' => e = .returned (.bool (nameS s)) ∧ w = w' := by
  by_cases h0 : s.size = 0
  · have HF := Lib.hid (show nameS s = false by unfold nameS; rw [h0]; rfl)
    have hz : ((s.size : Int) == 0) = true := by rw [h0]; rfl
    go_enter Try.func46, Try.ntmps46
    go_wp2_with fail
    go_ret
    exact ⟨ret_bool HF.out.symm, rfl⟩
  have hz : ((s.size : Int) == 0) = false := by rw [beq_eq_false_iff_ne]; omega
  by_cases h1 : 12 < s.size
  · have HF := Lib.hid (show nameS s = false by unfold nameS; rw [decide_eq_false (by omega)]; rfl)
    have hl : (12 : Int) < (s.size : Int) := by omega
    clear h0 h1
    go_enter Try.func46, Try.ntmps46
    go_wp2_with fail
    go_ret
    exact ⟨ret_bool HF.out.symm, rfl⟩
  have HF := Lib.hid (show nameS s = s.data.toList.all nmc by unfold nameS; rw [decide_eq_true (by omega), Bool.true_and])
  clear h0
  go_enter Try.func46, Try.ntmps46
  go_wp2_with fail
  go_loop [14] (fun i => ∃ k : Nat, k ≤ s.size ∧ i = .int .i64 k ∧ (s.data.toList.take k).all nmc = true) (fun i => s.size - (intOf i).toNat)
  case atStart => exact ⟨0, by omega, rfl, by simp⟩
  case round =>
    obtain ⟨k, hk, rfl, hall⟩ := hrel
    have HA := Lib.hid hall
    clear hall hz
    by_cases hlt : k < s.size
    · have HS := Lib.hid (nm_snoc s k hlt)
      have bad : nmc s[k] = false → nameS s = false := fun h => nm_false (k := k + 1) (by rw [HS.out, h, Bool.and_false])
      have HB := Lib.hid bad
      clear bad
      have good : nmc s[k] = true → (s.data.toList.take (k + 1)).all nmc = true := fun h => by rw [HS.out, HA.out, h]; rfl
      have HG := Lib.hid good
      clear good
      by_cases c1 : (s[k].toNat : Int) < 97
      · by_cases c2 : (s[k].toNat : Int) < 48
        · have HD := Lib.hid (show nmc s[k] = false from decide_eq_false (by omega))
          go_wp2
          go_ret
          exact ⟨ret_bool (HB.out HD.out).symm, rfl⟩
        · by_cases c3 : 57 < (s[k].toNat : Int)
          · have HD := Lib.hid (show nmc s[k] = false from decide_eq_false (by omega))
            go_wp2
            go_ret
            exact ⟨ret_bool (HB.out HD.out).symm, rfl⟩
          · have HD := Lib.hid (show nmc s[k] = true from decide_eq_true (by omega))
            go_wp2
            go_round
            case rel => exact ⟨k + 1, by omega, by go_num, HG.out HD.out⟩
            case measure => simp [intOf]; omega
      · by_cases c4 : 122 < (s[k].toNat : Int)
        · have c3 : 57 < (s[k].toNat : Int) := by omega
          have c2 : ¬ (s[k].toNat : Int) < 48 := by omega
          have HD := Lib.hid (show nmc s[k] = false from decide_eq_false (by omega))
          go_wp2
          go_ret
          exact ⟨ret_bool (HB.out HD.out).symm, rfl⟩
        · have HD := Lib.hid (show nmc s[k] = true from decide_eq_true (by omega))
          go_wp2
          go_round
          case rel => exact ⟨k + 1, by omega, by go_num, HG.out HD.out⟩
          case measure => simp [intOf]; omega
    · have HE := Lib.hid (show nameS s = true by rw [HF.out]; have e : k = s.size := by omega
                                                 have g := HA.out; rw [e, List.take_of_length_le (by simp)] at g; exact g)
      go_wp2
      go_ret
      exact ⟨ret_bool HE.out.symm, rfl⟩

set_option maxHeartbeats 800000 in
theorem rname_any (s : ByteArray) (w : World) (hz : s.size ≤ 4611686018427387904) :
    Calls Try.prog 48 #[.string s] w fun e w' => e = .returned (.bool (nameS s)) ∧ w = w' := by
  go_enter Try.func48, Try.ntmps48
  go_wp2_with fail
  go_loop [3] (fun i => ∃ k : Nat, k ≤ s.size ∧ i = .int .i64 k ∧ (s.data.toList.take k).all nmc = true) (fun i => s.size - (intOf i).toNat)
  case atStart => exact ⟨0, by omega, rfl, by simp⟩
  case round =>
    obtain ⟨k, hk, rfl, hall⟩ := hrel
    have HA := Lib.hid hall
    clear hall
    by_cases hlt : k < s.size
    · have HS := Lib.hid (nm_snoc s k hlt)
      have bad : nmc s[k] = false → nameS s = false := fun h => nm_false (k := k + 1) (by rw [HS.out, h, Bool.and_false])
      have HB := Lib.hid bad
      clear bad
      have good : nmc s[k] = true → (s.data.toList.take (k + 1)).all nmc = true := fun h => by rw [HS.out, HA.out, h]; rfl
      have HG := Lib.hid good
      clear good
      by_cases c1 : 97 ≤ (s[k].toNat : Int)
      · by_cases c4 : (s[k].toNat : Int) ≤ 122
        · have HD := Lib.hid (show nmc s[k] = true from decide_eq_true (by omega))
          go_wp2
          go_round
          case rel => exact ⟨k + 1, by omega, by go_num, HG.out HD.out⟩
          case measure => simp [intOf]; omega
        · have c2 : 48 ≤ (s[k].toNat : Int) := by omega
          have c3 : ¬ (s[k].toNat : Int) ≤ 57 := by omega
          have HD := Lib.hid (show nmc s[k] = false from decide_eq_false (by omega))
          go_wp2
          go_ret
          exact ⟨ret_bool (HB.out HD.out).symm, rfl⟩
      · by_cases c2 : 48 ≤ (s[k].toNat : Int)
        · by_cases c3 : (s[k].toNat : Int) ≤ 57
          · have HD := Lib.hid (show nmc s[k] = true from decide_eq_true (by omega))
            go_wp2
            go_round
            case rel => exact ⟨k + 1, by omega, by go_num, HG.out HD.out⟩
            case measure => simp [intOf]; omega
          · have HD := Lib.hid (show nmc s[k] = false from decide_eq_false (by omega))
            go_wp2
            go_ret
            exact ⟨ret_bool (HB.out HD.out).symm, rfl⟩
        · have HD := Lib.hid (show nmc s[k] = false from decide_eq_false (by omega))
          go_wp2
          go_ret
          exact ⟨ret_bool (HB.out HD.out).symm, rfl⟩
    · have HE := Lib.hid (show s.data.toList.all nmc = true by
        have e : k = s.size := by omega
        have g := HA.out; rw [e, List.take_of_length_le (by simp)] at g; exact g)
      by_cases h1 : 1 ≤ s.size
      · by_cases h2 : s.size ≤ 12
        · have HF := Lib.hid (show nameS s = true by unfold nameS; rw [decide_eq_true ⟨h1, h2⟩, HE.out]; rfl)
          go_wp2
          go_ret
          exact ⟨ret_bool (by rw [HF.out]; exact decide_eq_true (by omega)), rfl⟩
        · have HF := Lib.hid (show nameS s = false by unfold nameS; rw [decide_eq_false (fun g => h2 g.2)]; rfl)
          go_wp2
          go_ret
          exact ⟨ret_bool (by rw [HF.out]; exact decide_eq_false (by omega)), rfl⟩
      · have HF := Lib.hid (show nameS s = false by unfold nameS; rw [decide_eq_false (fun g => h1 g.1)]; rfl)
        go_wp2
        go_ret
        exact ⟨ret_bool HF.out.symm, rfl⟩

set_option maxHeartbeats 400000 in
theorem axles_any (k : Int) (w : World) :
    Calls Try.prog 44 #[.int .i64 k] w fun e w' => e = .returned (.int .i64 (axlK k)) ∧ w = w' := by
  by_cases h2 : k = 2
  · subst h2
    go_enter Try.func44, Try.ntmps44
    go_wp2
    go_ret
    exact ⟨rfl, rfl⟩
  · by_cases h3 : k = 3
    · subst h3
      go_enter Try.func44, Try.ntmps44
      go_wp2
      go_ret
      exact ⟨rfl, rfl⟩
    · have HF := Lib.hid (show axlK k = 4 by unfold axlK; rw [if_neg h2, if_neg h3])
      have e2 : (k == 2) = false := beq_eq_false_iff_ne.2 h2
      have e3 : (k == 3) = false := beq_eq_false_iff_ne.2 h3
      clear h2 h3
      go_enter Try.func44, Try.ntmps44
      go_wp2
      go_ret
      exact ⟨ret_int HF.out.symm, rfl⟩
end Go.Proofs.Ytgiodpepjajlmaa
