/-
  Stage 2: the reference's Valid and Kind.
-/
import Derived.Test.YtgiodpepjajlmaaSum
set_option linter.unusedSimpArgs false
set_option linter.unusedVariables false
namespace Go.Proofs.Ytgiodpepjajlmaa
open Go.RowKit

set_option maxHeartbeats 400000 in
theorem rvalid_any (s : ByteArray) (w : World) :
    Calls Try.prog 49 #[.string s] w fun e w' => e = .returned (.int .i64 (validS s)) ∧ ∃ n, w' = w.drewN n := by
  cases hs : dgs s 12
  · have HF : Hid (validS s = 11) := Lib.hid (by unfold validS; rw [hs]; rfl)
    go_enter Try.func49, Try.ntmps49
    go_wp2_with fail
    refine (digits_any _ _ _ (by omega) (by omega)).mono ?_
    rintro e w' ⟨rfl, rfl⟩
    go_wp2_with fail
    go_ret
    exact ⟨ret_int HF.out.symm, ⟨0, rfl⟩⟩
  · obtain ⟨hz, hd⟩ := dgs_t hs
    have hk : 11 < s.size := by omega
    have hb := sumTo_bd hd 11 (by omega)
    obtain ⟨b1, b2⟩ := hb
    obtain ⟨c1, c2⟩ := dig_all hd 11 hk
    have d1 : 48 ≤ (s[11].toNat : Int) := by omega
    have d2 : (s[11].toNat : Int) ≤ 57 := by omega
    have he : oks s.data.toList = decide ((sumTo s.data.toList 11 + ((s[11].toNat : Int) - 48)) % 10 = 0) := by unfold oks dv; rw [getD_byte s 11 hk]
    have HE := Lib.hid he
    have HD := Lib.hid hd
    have HZ := Lib.hid hz
    have HS := Lib.hid hs
    have h12 : 11 ≤ s.size := by omega
    have h13 : s.size ≤ 1000 := by omega
    clear hz hd he c1 c2
    have hk' : (11 : Int) < (s.size : Int) := by omega
    have h12' : (11 : Int) ≤ (s.size : Int) := by omega
    have WU : IntKind.u8.wrap ((s[11].toNat : Int) - 48) = (s[11].toNat : Int) - 48 := IntWalk.u8_in _ (by omega)
    have WA : IntKind.i64.wrap ((s[11].toNat : Int) - 48) = (s[11].toNat : Int) - 48 := IntWalk.i64_in _ (by omega)
    have WB : IntKind.i64.wrap (sumTo s.data.toList 11 + ((s[11].toNat : Int) - 48)) = sumTo s.data.toList 11 + ((s[11].toNat : Int) - 48) := IntWalk.i64_in _ (by omega)
    have WC : (sumTo s.data.toList 11 + ((s[11].toNat : Int) - 48)).tmod 10 = (sumTo s.data.toList 11 + ((s[11].toNat : Int) - 48)) % 10 := IntWalk.rem_in _ _ (by omega)
    by_cases g : (sumTo s.data.toList 11 + ((s[11].toNat : Int) - 48)) % 10 = 0
    · have g' : ((sumTo s.data.toList 11 + ((s[11].toNat : Int) - 48)) % 10 != 0) = false := by simp [g]
      have HF : Hid (validS s = 0) := Lib.hid (by unfold validS; rw [if_pos HS.out, HE.out, if_pos (decide_eq_true g)])
      clear g
      go_enter Try.func49, Try.ntmps49
      go_wp2_with fail
      refine (digits_any _ _ _ (by decide) (by decide)).mono ?_
      rintro e w' ⟨rfl, rfl⟩
      go_wp2_with fail
      go_quiet ((go_at_call 56; exact Calls.quiet_of_same ((sum_any _ _ _ (by decide) h12' h13 HD.out).mono fun _ _ h => ⟨h.1, h.2.symm⟩)))
      go_wp2_with fail
      go_ret
      exact ⟨ret_int HF.out.symm, ⟨_, rfl⟩⟩
    · have g' : ((sumTo s.data.toList 11 + ((s[11].toNat : Int) - 48)) % 10 != 0) = true := by simp [g]
      have HF : Hid (validS s = 9) := Lib.hid (by unfold validS; rw [if_pos HS.out, HE.out, if_neg (by simp [g])])
      clear g
      go_enter Try.func49, Try.ntmps49
      go_wp2_with fail
      refine (digits_any _ _ _ (by decide) (by decide)).mono ?_
      rintro e w' ⟨rfl, rfl⟩
      go_wp2_with fail
      go_quiet ((go_at_call 56; exact Calls.quiet_of_same ((sum_any _ _ _ (by decide) h12' h13 HD.out).mono fun _ _ h => ⟨h.1, h.2.symm⟩)))
      go_wp2_with fail
      go_ret
      exact ⟨ret_int HF.out.symm, ⟨_, rfl⟩⟩

end Go.Proofs.Ytgiodpepjajlmaa
