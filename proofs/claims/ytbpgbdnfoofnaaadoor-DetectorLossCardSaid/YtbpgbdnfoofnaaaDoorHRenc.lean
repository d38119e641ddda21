/-
  Stage 3: the reference's Encode.
-/
import Derived.Test.YtbpgbdnfoofnaaaDoorHRef
set_option linter.unusedSimpArgs false
set_option linter.unusedVariables false
namespace Go.Proofs.YtbpgbdnfoofnaaaDoor
open Go.RowKit

theorem shl_run6 (b p : Nat) (hb : b < 2) (hp : p < 16) : wrap64 ((b : Int) * 2 ^ p) = (shN b p : Int) := by
  have h2 : 2 ^ p ≤ 2 ^ 15 := Nat.pow_le_pow_right (by decide) (by omega)
  have e : (b : Int) * 2 ^ p = ((b <<< p : Nat) : Int) := by rw [Nat.shiftLeft_eq]; simp
  rw [e]
  have l := shl_lt (p := p) hb hp
  exact wrap6 _ (by unfold shN at l; omega)
theorem chk_zero {w s k : Nat} (h : bitN s k = 0) : chk w s (k + 1) = chk w s k := by
  rw [show chk w s (k + 1) = chk w s k ||| bitN s k <<< 2 ^ k from rfl, h, Nat.zero_shiftLeft, Nat.or_zero]
theorem chk_one {w s k : Nat} (h : bitN s k = 1) : chk w s (k + 1) = chk w s k ||| oneN (p2 k) := by
  rw [show chk w s (k + 1) = chk w s k ||| bitN s k <<< 2 ^ k from rfl, h]; rfl
theorem or_one (c p : Nat) (hp : p = 0 ∨ p = 1) : c ||| p = if p = 1 then c ||| 1 else c := by
  rcases hp with rfl | rfl <;> simp
set_option maxHeartbeats 1600000 in
theorem rencode_ok (v t : Nat) (ht : t = encN v) (w : World) (hv : v < 2048) :
    Calls Tryd.prog 42 #[.int .i64 v] w fun e w' => e = .returned (R2 ((t : Int), 0)) ∧ Below w.heap.size w w' := by
  have HT := Lib.hid ht
  clear ht
  go_enter Tryd.func42, Tryd.ntmps42
  go_wp2_with fail
  refine (places_any _).mono ?_
  rintro e w1 ⟨rfl, P, B⟩
  have hb : w.heap.size < w1.heap.size := P.lt
  obtain ⟨b, eb⟩ : ∃ b, b = w.heap.size := ⟨_, rfl⟩
  rw [← eb] at P hb B ⊢
  have EB := Lib.hid eb
  have HB := Lib.hid B
  clear B eb
  go_wp2_with fail
  go_loopw [4, 6] (fun s i wr => (Plc wr b ∧ Hid (Below b w wr)) ∧ ∃ k : Nat, k ≤ 11 ∧ i = .int .i64 k ∧ s = .int .i64 (spr v k)) (fun _ i _ => 11 - (intOf i).toNat)
  case atStart => exact ⟨⟨P, HB⟩, 0, by omega, rfl, rfl⟩
  case round =>
    clear P HB
    obtain ⟨⟨P, HB⟩, k, hk, rfl, rfl⟩ := hrel
    by_cases hlt : k < 11
    · have hp := pl_lt k
      have hc := P.cs k hlt
      have HN := Lib.hid (orI (spr v k) (shN (bitN v k) (pl k)) (by have := spr_lt v k; omega) (by have := shl_lt (bitN_lt v k) hp; omega))
      have HS := Lib.hid (shl_run (bitN v k) (pl k) (bitN_lt v k) hp)
      have HR := Lib.hid (bit_run v k (by omega))
      go_upto_region 8 with fail
      go_quiet (fail)
      rw [HR.out, shl_run6 _ _ (bitN_lt v k) hp, HN.out]
      clear hc
      go_wp2_with fail
      go_roundw
      case rel => exact ⟨⟨P.drewN nq, bdn HB⟩, k + 1, by omega, by go_num, rfl⟩
      case measure => simp [intOf]; omega
    · obtain rfl : k = 11 := by omega
      clear hlt hk
      have l1 := spr_lt v 11
      obtain ⟨x, hx⟩ : ∃ x, x = spr v 11 := ⟨_, rfl⟩
      rw [← hx] at l1 ⊢
      obtain ⟨s, o, hs, l2, ho, cs⟩ := rsyn_ex x (by omega)
      have HX := Lib.hid hx
      have HS := Lib.hid hs
      clear hx hs ho P
      go_wp2_with fail
      refine (cs _).mono ?_
      rintro e w' ⟨rfl, rfl⟩
      clear cs
      go_wp2_with fail
      go_loop [4, 9] (fun c i => ∃ k : Nat, k ≤ 4 ∧ i = .int .i64 (p2 k) ∧ c = .int .i64 (chk x s k)) (fun _ i => 16 - (intOf i).toNat)
      case atStart => exact ⟨0, by omega, rfl, rfl⟩
      case round =>
        obtain ⟨k, hk, rfl, rfl⟩ := hrel
        have l3 := chk_lt (w := x) s k l1 hk
        obtain ⟨pb1, pb2, pb3⟩ := p2_bd k hk
        have E1 := Lib.hid pb3
        clear pb3
        by_cases hlt : k < 4
        · have l4 := p2_lt k hlt
          have hr := and_p2 s k l2 hlt
          rcases bitN_two s k with hbit | hbit
          · have E2 := Lib.hid (chk_zero (w := x) hbit)
            rw [hbit, Nat.zero_mul] at hr
            have hr' : bits .and .i64 (s : Int) (p2 k : Int) = 0 := hr
            clear hbit hr
            go_wp2
            clear hr'
            go_round
            case rel => exact ⟨k + 1, by omega, by rw [E1.out]; go_num, by rw [E2.out]⟩
            case measure => simp [intOf]; omega
          · have E2 := Lib.hid (chk_one (w := x) hbit)
            rw [hbit, Nat.one_mul] at hr
            have e3 := one_shl_run (p2 k) (by omega)
            have e4 := orI (chk x s k) (oneN (p2 k)) (by omega) (by have := sh_lt (p := p2 k) (by omega); unfold oneN; omega)
            have E3 := Lib.hid e3
            have E4 := Lib.hid e4
            clear hbit e3 e4
            go_wp2
            clear hr
            go_round
            case rel => exact ⟨k + 1, by omega, by rw [E1.out]; go_num, by rw [E2.out, ← E4.out, show ((oneN (p2 k) : Nat) : Int) = ((1 <<< p2 k : Nat) : Int) from rfl, ← E3.out]⟩
            case measure => simp [intOf]; omega
        · obtain rfl : k = 4 := by omega
          have l4 : 8 < p2 4 := by decide
          clear hlt hk E1
          obtain ⟨c, hc⟩ : ∃ c, c = chk x s 4 := ⟨_, rfl⟩
          rw [← hc] at l3 ⊢
          obtain ⟨s', o', hs', l5, ho', cs'⟩ := rsyn_ex c (by omega)
          have hp := odd_bit c 16
          rw [← ho'] at hp
          have HC := Lib.hid hc
          clear hc hs' ho'
          have ht : t = c ||| pop c 16 % 2 := by rw [HT.out, HC.out, HS.out, HX.out]; rfl
          rcases hp with ⟨rfl, hp⟩ | ⟨rfl, hp⟩
          · rw [hp] at ht
            have e4 := orI c 1 (by omega) (by omega)
            have e5 : bits .or .i64 (c : Int) 1 = (t : Int) := by rw [ht]; exact e4
            clear e4 ht hp
            go_wp2_with fail
            refine (cs' _).mono ?_
            rintro e w' ⟨rfl, rfl⟩
            clear cs'
            go_wp2_with fail
            go_ret2
            exact ⟨rfl, by have := HB.out; rw [EB.out] at this; exact this⟩
          · rw [hp, Nat.or_zero] at ht
            subst ht
            go_wp2_with fail
            refine (cs' _).mono ?_
            rintro e w' ⟨rfl, rfl⟩
            clear cs'
            go_wp2_with fail
            go_ret2
            exact ⟨rfl, by have := HB.out; rw [EB.out] at this; exact this⟩
theorem rencode_any (v : Int) (w : World) :
    Calls Tryd.prog 42 #[.int .i64 v] w fun e w' => e = .returned (R2 (encR v)) ∧ Below w.heap.size w w' := by
  by_cases h : 0 ≤ v ∧ v ≤ 2047
  · obtain ⟨n, rfl⟩ : ∃ n : Nat, v = n := ⟨v.toNat, by omega⟩
    rw [encR_nat (by omega)]
    exact rencode_ok n _ rfl w (by omega)
  · rw [encR_no h]
    by_cases h0 : v < 0
    all_goals
      first | (have h2 : 2047 < v := by omega) | skip
      clear h
      go_enter Tryd.func42, Tryd.ntmps42
      go_wp2_with fail
      go_ret2
      exact ⟨rfl, Below.refl _ _⟩
end Go.Proofs.YtbpgbdnfoofnaaaDoor
