/-
  Stage 2: the reference's Kind.
-/
import Derived.Test.YtgiodpepjajlmaaValid
set_option linter.unusedSimpArgs false
set_option linter.unusedVariables false
namespace Go.Proofs.Ytgiodpepjajlmaa
open Go.RowKit

def knd (c : UInt8) : Int := if c.toNat = 55 ∨ c.toNat = 56 then 1 else if c.toNat = 50 ∨ c.toNat = 52 then 2 else if c.toNat = 57 then 3 else 0
def kindR (s : ByteArray) : Int × Int := if validS s = 0 then (knd (s.data.toList.getD 4 48), 0) else (0, validS s)

theorem validR_size {s : ByteArray} (h : validS s = 0) : s.size = 12 ∧ s.data.toList.all dig = true ∧ oks s.data.toList = true := by
  unfold validS at h
  cases hd : dgs s 12
  · rw [hd] at h; simp at h
  · cases ho : oks s.data.toList
    · rw [hd, ho] at h; simp at h
    · obtain ⟨h1, h2⟩ := dgs_t hd
      exact ⟨h1, h2, rfl⟩

set_option maxHeartbeats 400000 in
theorem rkind_any (s : ByteArray) (w : World) :
    Calls Try.prog 37 #[.string s] w fun e w' => e = .returned (R2 (kindR s)) ∧ ∃ n, w' = w.drewN n := by
  by_cases hv : validS s = 0
  · obtain ⟨hz, hd, ho⟩ := validR_size hv
    have hk : 4 < s.size := by omega
    have HF : Hid (kindR s = (knd s[4], 0)) := Lib.hid (by unfold kindR; rw [if_pos hv, getD_byte s 4 hk])
    have HV := Lib.hid hv
    have HK : Hid (∀ v, knd s[4] = v → kindR s = (v, 0)) := Lib.hid (fun v h => by rw [HF.out, h])
    have ev : (validS s != 0) = false := by simp [hv]
    clear hv hd ho hz
    have fin : ∀ (v : Int), knd s[4] = v → kindR s = (v, 0) := HK.out
    have HFn := Lib.hid fin
    clear fin
    by_cases c0 : s[4].toNat = 55
    · have HC : Hid (knd s[4] = 1) := Lib.hid (by unfold knd; rw [c0]; rfl)
      go_enter Try.func37, Try.ntmps37
      go_wp2_with fail
      refine (rvalid_any _ _).mono ?_
      rintro e w' ⟨rfl, n, rfl⟩
      go_wp2_with fail
      go_ret2
      exact ⟨ret_r2 (HFn.out _ HC.out), ⟨_, rfl⟩⟩
    by_cases c1 : s[4].toNat = 56
    · have HC : Hid (knd s[4] = 1) := Lib.hid (by unfold knd; rw [c1]; rfl)
      go_enter Try.func37, Try.ntmps37
      go_wp2_with fail
      refine (rvalid_any _ _).mono ?_
      rintro e w' ⟨rfl, n, rfl⟩
      go_wp2_with fail
      go_ret2
      exact ⟨ret_r2 (HFn.out _ HC.out), ⟨_, rfl⟩⟩
    by_cases c2 : s[4].toNat = 50
    · have HC : Hid (knd s[4] = 2) := Lib.hid (by unfold knd; rw [c2]; rfl)
      go_enter Try.func37, Try.ntmps37
      go_wp2_with fail
      refine (rvalid_any _ _).mono ?_
      rintro e w' ⟨rfl, n, rfl⟩
      go_wp2_with fail
      go_ret2
      exact ⟨ret_r2 (HFn.out _ HC.out), ⟨_, rfl⟩⟩
    by_cases c3 : s[4].toNat = 52
    · have HC : Hid (knd s[4] = 2) := Lib.hid (by unfold knd; rw [c3]; rfl)
      go_enter Try.func37, Try.ntmps37
      go_wp2_with fail
      refine (rvalid_any _ _).mono ?_
      rintro e w' ⟨rfl, n, rfl⟩
      go_wp2_with fail
      go_ret2
      exact ⟨ret_r2 (HFn.out _ HC.out), ⟨_, rfl⟩⟩
    by_cases c4 : s[4].toNat = 57
    · have HC : Hid (knd s[4] = 3) := Lib.hid (by unfold knd; rw [c4]; rfl)
      go_enter Try.func37, Try.ntmps37
      go_wp2_with fail
      refine (rvalid_any _ _).mono ?_
      rintro e w' ⟨rfl, n, rfl⟩
      go_wp2_with fail
      go_ret2
      exact ⟨ret_r2 (HFn.out _ HC.out), ⟨_, rfl⟩⟩
    · have HC : Hid (knd s[4] = 0) := Lib.hid (by unfold knd; rw [if_neg (by omega), if_neg (by omega), if_neg c4])
      go_enter Try.func37, Try.ntmps37
      go_wp2_with fail
      refine (rvalid_any _ _).mono ?_
      rintro e w' ⟨rfl, n, rfl⟩
      go_wp2_with fail
      go_ret2
      exact ⟨ret_r2 (HFn.out _ HC.out), ⟨_, rfl⟩⟩
  · have HF : Hid (kindR s = (0, validS s)) := Lib.hid (by unfold kindR; rw [if_neg hv])
    have ev : (validS s != 0) = true := by simp [hv]
    clear hv
    go_enter Try.func37, Try.ntmps37
    go_wp2_with fail
    refine (rvalid_any _ _).mono ?_
    rintro e w' ⟨rfl, n, rfl⟩
    go_wp2_with fail
    go_ret2
    exact ⟨ret_r2 HF.out, ⟨_, rfl⟩⟩

end Go.Proofs.Ytgiodpepjajlmaa
