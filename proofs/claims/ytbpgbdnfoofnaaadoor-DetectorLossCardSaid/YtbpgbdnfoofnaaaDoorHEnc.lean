/-
  Stage 3: the program's Encode, Decode and Distance.
-/
import Derived.Test.YtbpgbdnfoofnaaaDoorHCalls
import Derived.Test.YtbpgbdnfoofnaaaDoorHCode
set_option linter.unusedSimpArgs false
set_option linter.unusedVariables false
namespace Go.Proofs.YtbpgbdnfoofnaaaDoor
open Go.RowKit

theorem shc_run (b k : Nat) (hb : b < 2) (hk : k < 4) : wrap64 ((b : Int) * 2 ^ min (IntKind.u64.wrap (2 ^ k)).toNat 64) = (shN b (2 ^ k) : Int) := by
  have h : k = 0 ∨ k = 1 ∨ k = 2 ∨ k = 3 := by omega
  have hb' : b = 0 ∨ b = 1 := by omega
  rcases h with rfl | rfl | rfl | rfl <;> rcases hb' with rfl | rfl <;> decide +kernel
/-- A call that says what it returns, under a name. -/
theorem spread_ex (v : Nat) (w : World) (hv : v < 9223372036854775808) (D : Dat w) : ∃ x, x = spr v 11 ∧ x < 65536 ∧
    Calls Tryd.prog 46 #[.int .i64 v] w fun e w' => e = .returned (.int .i64 x) ∧ w = w' := ⟨_, rfl, spr_lt v 11, spread_any v w hv D⟩
theorem gather_ex (v : Nat) (w : World) (hv : v < 9223372036854775808) (D : Dat w) : ∃ x, x = gat v 11 ∧ x < 2048 ∧
    Calls Tryd.prog 51 #[.int .i64 v] w fun e w' => e = .returned (.int .i64 x) ∧ w = w' := ⟨_, rfl, gat_lt v 11 (by omega), gather_any v w hv D⟩
theorem syndrome_ex (v : Nat) (hv : v < 9223372036854775808) : ∃ x, x = syn v 16 ∧ x < 16 ∧ ∀ w,
    Calls Tryd.prog 47 #[.int .i64 v] w fun e w' => e = .returned (.int .i64 x) ∧ w = w' := ⟨_, rfl, syn_lt v 16 (by omega), fun w => syndrome_any v w hv⟩
theorem parity_ex (v : Nat) (hv : v < 65536) : ∃ x, x = pop v 16 % 2 ∧ x < 2 ∧ ∀ w,
    Calls Tryd.prog 49 #[.int .i64 v] w fun e w' => e = .returned (.int .i64 x) ∧ w = w' := ⟨_, rfl, by omega, fun w => parity_any v w hv⟩

set_option maxHeartbeats 800000 in
theorem encode_ok' (v t : Nat) (ht : t = encN v) (w : World) (hv : v < 2048) (D : Dat w) :
    Calls Tryd.prog 37 #[.int .i64 v] w fun e w' => e = .returned (R2 ((t : Int), 0)) ∧ ∃ n, w' = w.drewN n := by
  obtain ⟨x, hx, l1, cx⟩ := spread_ex v w (by omega) D
  obtain ⟨s, hs, l2, cs⟩ := syndrome_ex x (by omega)
  have HT := Lib.hid ht
  have HX := Lib.hid hx
  have HS := Lib.hid hs
  clear ht hx hs
  go_enter Tryd.func37, Tryd.ntmps37
  go_wp2_with fail
  refine cx.mono ?_
  rintro e w' ⟨rfl, rfl⟩
  go_wp2_with fail
  refine (cs _).mono ?_
  rintro e w' ⟨rfl, rfl⟩
  clear cx cs
  go_wp2_with fail
  go_loopw [4, 17] (fun c i wr => (∃ n, wr = w.drewN n) ∧ ∃ k : Nat, k ≤ 4 ∧ i = .int .i64 k ∧ c = .int .i64 (chk x s k)) (fun _ i _ => 4 - (intOf i).toNat)
  case atStart => exact ⟨⟨0, rfl⟩, 0, by omega, rfl, rfl⟩
  case round =>
    obtain ⟨⟨n, hw0⟩, k, hk, rfl, rfl⟩ := hrel
    have HW := Lib.hid (show ∃ n, wr = w.drewN n from ⟨n, hw0⟩)
    clear hw0
    by_cases hlt : k < 4
    · go_upto_region 8 with fail
      go_quiet ((go_at_call 48; exact quiet_mine (bitAt_any s k _ (by omega) (by omega))))
      have e1 := shc_run (bitN s k) k (bitN_lt s k) hlt
      have l3 := chk_lt (w := x) s k l1 (by omega)
      have l4 := shl_lt (b := bitN s k) (p := 2 ^ k) (bitN_lt s k) (by
        have : 2 ^ k ≤ 2 ^ 3 := Nat.pow_le_pow_right (by decide) (by omega)
        omega)
      have e2 := orI (chk x s k) (shN (bitN s k) (2 ^ k)) (by omega) (by omega)
      rw [e1, e2]
      have E : Hid (chk x s (k + 1) = chk x s k ||| shN (bitN s k) (2 ^ k)) := Lib.hid rfl
      clear e1 e2 l3 l4
      go_wp2_with fail
      go_roundw
      case rel => exact ⟨by obtain ⟨n, rfl⟩ := HW.out; exact ⟨n + nq, by rw [World.drewN_drewN]⟩, k + 1, by omega, by go_num, by rw [E.out]⟩
      case measure => simp [intOf]; omega
    · obtain rfl : k = 4 := by omega
      clear hlt hk
      obtain ⟨c, hc⟩ : ∃ c, c = chk x s 4 := ⟨_, rfl⟩
      have l3 := chk_lt (w := x) s 4 l1 (by omega)
      rw [← hc] at l3 ⊢
      obtain ⟨p, hp, l4, cp⟩ := parity_ex c l3
      have hz := orI c p (by omega) (by omega)
      have hz' : bits .or .i64 (c : Int) (p : Int) = (t : Int) := by
        rw [hz, HT.out, hp, hc, HS.out, HX.out]; rfl
      have HC := Lib.hid hc
      have HP := Lib.hid hp
      clear hc hp hz
      go_wp2_with fail
      refine (cp _).mono ?_
      rintro e w' ⟨rfl, rfl⟩
      clear cp
      go_wp2_with fail
      go_ret2
      exact ⟨rfl, HW.out⟩
end Go.Proofs.YtbpgbdnfoofnaaaDoor
