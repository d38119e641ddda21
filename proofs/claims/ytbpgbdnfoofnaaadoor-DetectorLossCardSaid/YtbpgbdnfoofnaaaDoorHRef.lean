/-
  Stage 3: the reference's places, syndrome, Encode, value, Decode and Distance.
-/
import Derived.Test.YtbpgbdnfoofnaaaDoorHDec
set_option linter.unusedSimpArgs false
set_option linter.unusedVariables false
namespace Go.Proofs.YtbpgbdnfoofnaaaDoor
open Go.RowKit

/-- Block b holds the places. -/
structure Plc (w : World) (b : Nat) : Prop where
  cs : ∀ k, k < 11 → w.cell? ⟨b, k, none⟩ = some (.int .i64 (pl k : Int))
theorem Plc.lt {w : World} {b : Nat} (h : Plc w b) : b < w.heap.size := lt_of_cell (h.cs 0 (by decide))
theorem Plc.below {w w' : World} {b : Nat} (h : Plc w b) (k : Below w.heap.size w w') : Plc w' b := ⟨fun j hj => (k.cell (p := ⟨b, j, none⟩) h.lt).trans (h.cs j hj)⟩
theorem Plc.drewN {w : World} {b : Nat} (h : Plc w b) (n : Nat) : Plc (w.drewN n) b := h.below ⟨rfl, rfl, rfl, Nat.le_refl _, fun _ _ => rfl⟩
theorem places_any (w : World) :
    Calls Tryd.prog 53 #[] w fun e w' => e = .returned (.slice (some ⟨w.heap.size, 0, none⟩) 11 11) ∧ Plc w' w.heap.size ∧ Below w.heap.size w w' := by
  go_enter Tryd.func53, Tryd.ntmps53
  go_wp2
  go_ret
  refine ⟨rfl, ⟨fun k hk => ?_⟩, (Below.refl _ _).alloc (Nat.le_refl _) _⟩
  rw [cell_new]
  have h' : k = 0 ∨ k = 1 ∨ k = 2 ∨ k = 3 ∨ k = 4 ∨ k = 5 ∨ k = 6 ∨ k = 7 ∨ k = 8 ∨ k = 9 ∨ k = 10 := by omega
  rcases h' with rfl | rfl | rfl | rfl | rfl | rfl | rfl | rfl | rfl | rfl | rfl <;> rfl

/-- Whether an odd number of the first k bits is set. -/
def odd (v k : Nat) : Bool := pop v k % 2 == 1
theorem odd_zero {v k : Nat} (h : bitN v k = 0) : odd v (k + 1) = odd v k := by
  unfold odd
  rw [show pop v (k + 1) = pop v k + bitN v k from rfl, h]; rfl
theorem odd_one {v k : Nat} (h : bitN v k = 1) : odd v (k + 1) = !odd v k := by
  unfold odd
  rw [show pop v (k + 1) = pop v k + bitN v k from rfl, h]
  rcases (show pop v k % 2 = 0 ∨ pop v k % 2 = 1 by omega) with e | e
  · rw [show (pop v k + 1) % 2 = 1 by omega, e]; rfl
  · rw [show (pop v k + 1) % 2 = 0 by omega, e]; rfl
theorem odd_par (v k : Nat) : odd v k = decide (pop v k % 2 = 1) := rfl
theorem bit_run (v p : Nat) (hv : v < 9223372036854775808) : bits .and .i64 ((v : Int) / 2 ^ p) 1 = (bitN v p : Int) := by
  rw [cast_shr, one_and _ (shr_lt p hv), bitN_div, Nat.shiftRight_eq_div_pow]
theorem rsyn_any (v : Nat) (w : World) (hv : v < 9223372036854775808) :
    Calls Tryd.prog 54 #[.int .i64 v] w fun e w' => e = .returned (.tuple #[.int .i64 (syn v 16), .bool (odd v 16)]) ∧ w = w' := by
  go_enter Tryd.func54, Tryd.ntmps54
  go_wp2
  go_loop [4, 5, 6] (fun s o i => ∃ k : Nat, k ≤ 16 ∧ i = .int .i64 k ∧ s = .int .i64 (syn v k) ∧ o = .bool (odd v k)) (fun _ _ i => 16 - (intOf i).toNat)
  case atStart => exact ⟨0, by omega, rfl, rfl, rfl⟩
  case round =>
    obtain ⟨k, hk, rfl, rfl, rfl⟩ := hrel
    by_cases hlt : k < 16
    · have hs := syn_lt v k (by omega)
      have HX := Lib.hid (xorI (syn v k) k (by omega) (by omega))
      have HN := Lib.hid (show syn v (k + 1) = if bitN v k = 1 then syn v k ^^^ k else syn v k from rfl)
      have hr := bit_run v k hv
      rcases bitN_two v k with hb | hb
      · have HO := Lib.hid (odd_zero hb)
        rw [hb] at hr
        have HB := Lib.hid hb
        have hr' : bits .and .i64 ((v : Int) / 2 ^ k) 1 = 0 := hr
        clear hb hr
        go_wp2
        clear hr'
        go_round
        case rel => exact ⟨k + 1, by omega, by go_num, by rw [HN.out, if_neg (by rw [HB.out]; decide)], by rw [HO.out]⟩
        case measure => simp [intOf]; omega
      · have HO := Lib.hid (odd_one hb)
        rw [hb] at hr
        have HB := Lib.hid hb
        have hr' : bits .and .i64 ((v : Int) / 2 ^ k) 1 = 1 := hr
        clear hb hr
        go_wp2
        clear hr'
        go_round
        case rel => exact ⟨k + 1, by omega, by go_num, by rw [HN.out, if_pos HB.out, ← HX.out], by rw [HO.out]⟩
        case measure => simp [intOf]; omega
    · obtain rfl : k = 16 := by omega
      go_wp2
      go_ret2
      exact ⟨rfl, rfl⟩

theorem value_any (v : Nat) (w : World) (hv : v < 9223372036854775808) :
    Calls Tryd.prog 58 #[.int .i64 v] w fun e w' => e = .returned (.int .i64 (gat v 11)) ∧ Below w.heap.size w w' := by
  go_enter Tryd.func58, Tryd.ntmps58
  go_wp2_with fail
  refine (places_any _).mono ?_
  rintro e w1 ⟨rfl, P, B⟩
  have hb : w.heap.size < w1.heap.size := P.lt
  obtain ⟨b, eb⟩ : ∃ b, b = w.heap.size := ⟨_, rfl⟩
  rw [← eb] at P hb B ⊢
  have HB := Lib.hid B
  have EB := Lib.hid eb
  clear B eb
  go_wp2_with fail
  go_loop [3, 5] (fun s i => ∃ k : Nat, k ≤ 11 ∧ i = .int .i64 k ∧ s = .int .i64 (gat v k)) (fun _ i => 11 - (intOf i).toNat)
  case atStart => exact ⟨0, by omega, rfl, rfl⟩
  case round =>
    obtain ⟨k, hk, rfl, rfl⟩ := hrel
    by_cases hlt : k < 11
    · have hp := pl_lt k
      have hc := P.cs k hlt
      have HN := Lib.hid (orI (gat v k) (shN (bitN v (pl k)) k) (by have := gat_lt v k (by omega); omega) (by have := shl_lt (p := k) (bitN_lt v (pl k)) (by omega); omega))
      have hs := shl_run (bitN v (pl k)) k (bitN_lt v (pl k)) (by omega)
      have hr := bit_run v (pl k) hv
      go_wp2
      clear hc
      go_round
      case rel => exact ⟨k + 1, by omega, by go_num, by rw [HN.out]; rfl⟩
      case measure => simp [intOf]; omega
    · obtain rfl : k = 11 := by omega
      go_wp2
      go_ret
      exact ⟨rfl, by have := HB.out; rw [EB.out] at this; exact this⟩

theorem p2_bd (k : Nat) (h : k ≤ 4) : 1 ≤ p2 k ∧ p2 k ≤ 16 ∧ p2 (k + 1) = p2 k * 2 := by
  unfold p2
  have h1 := Nat.two_pow_pos k
  have h2 : 2 ^ k ≤ 2 ^ 4 := Nat.pow_le_pow_right (by decide) h
  exact ⟨h1, by omega, Nat.pow_succ 2 k⟩
theorem p2_lt (k : Nat) (h : k < 4) : p2 k ≤ 8 := by
  unfold p2
  have h2 : 2 ^ k ≤ 2 ^ 3 := Nat.pow_le_pow_right (by decide) (by omega)
  omega
theorem and_p2 (s k : Nat) (hs : s < 16) (hk : k < 4) : bits .and .i64 (s : Int) (p2 k : Int) = ((bitN s k * p2 k : Nat) : Int) := by
  have h := p2_lt k hk
  rw [andI s (p2 k) (by omega) (by omega)]
  unfold p2
  rw [nat_bit, bitN_div]
theorem odd_bit (v k : Nat) : (odd v k = true ∧ pop v k % 2 = 1) ∨ (odd v k = false ∧ pop v k % 2 = 0) := by
  unfold odd
  rcases (show pop v k % 2 = 0 ∨ pop v k % 2 = 1 by omega) with e | e <;> rw [e] <;> simp
theorem rsyn_ex (v : Nat) (hv : v < 9223372036854775808) : ∃ x o, x = syn v 16 ∧ x < 16 ∧ o = odd v 16 ∧ ∀ w,
    Calls Tryd.prog 54 #[.int .i64 v] w fun e w' => e = .returned (.tuple #[.int .i64 x, .bool o]) ∧ w = w' := ⟨_, _, rfl, syn_lt v 16 (by omega), rfl, fun w => rsyn_any v w hv⟩
theorem value_ex (v : Nat) (hv : v < 9223372036854775808) : ∃ x, x = gat v 11 ∧ x < 2048 ∧ ∀ w,
    Calls Tryd.prog 58 #[.int .i64 v] w fun e w' => e = .returned (.int .i64 x) ∧ Below w.heap.size w w' := ⟨_, rfl, gat_lt v 11 (by omega), fun w => value_any v w hv⟩

set_option maxHeartbeats 800000 in
theorem rdecode_ok (v : Nat) (w : World) (hv : v < 65536) :
    Calls Tryd.prog 55 #[.int .i64 v] w fun e w' => e = .returned (R3 (decN v)) ∧ Below w.heap.size w w' := by
  obtain ⟨s, o, hs, l2, ho, cs⟩ := rsyn_ex v (by omega)
  have lx : v ^^^ oneN s < 65536 := xor_lt hv (sh_lt l2)
  obtain ⟨g, hg, l5, cg⟩ := value_ex v (by omega)
  have fr := flip_run v s hv l2
  obtain ⟨x, hx⟩ : ∃ x, x = v ^^^ oneN s := ⟨_, rfl⟩
  rw [← hx] at lx fr
  obtain ⟨g', hg', l6, cg'⟩ := value_ex x (by omega)
  have hp := odd_bit v 16
  rw [← ho] at hp
  have K1 := Lib.hid (fun h : pop v 16 % 2 = 1 => decN_one (v := v) (s := s) (g := g') h hs (by rw [hg', hx]; rfl))
  have K2 := Lib.hid (fun (h : pop v 16 % 2 = 0) (h' : s ≠ 0) => decN_bad (v := v) h (by rw [← hs]; exact h'))
  have K3 := Lib.hid (fun (h : pop v 16 % 2 = 0) (h' : s = 0) => decN_ok (v := v) (g := g) h (by rw [← hs]; exact h') hg)
  obtain ⟨t, ht⟩ : ∃ t, t = decN v := ⟨_, rfl⟩
  rw [← ht] at K1 K2 K3 ⊢
  clear hs ho hg hg' hx ht
  have FR := Lib.hid fr
  clear fr
  rcases hp with ⟨rfl, hp⟩ | ⟨rfl, hp⟩
  · have k := Lib.hid (K1.out hp)
    clear K1 K2 K3 cg hp
    go_enter Tryd.func55, Tryd.ntmps55
    go_wp2_with fail
    refine (cs _).mono ?_
    rintro e w' ⟨rfl, rfl⟩
    clear cs
    have fr := FR.out
    go_wp2_with fail
    refine (cg' _).mono ?_
    rintro e w' ⟨rfl, B⟩
    have HB := Lib.hid B
    clear cg' fr FR B
    go_wp2_with fail
    refine bodyPost_ret (v := .tuple #[.int .i64 g', .int .i64 s, .int .i64 0]) (by simp [results, Tryd.results55, go_sem]) rfl ⟨by rw [k.out], HB.out⟩
  · by_cases h0 : s = 0
    · subst h0
      have k := Lib.hid (K3.out hp rfl)
      clear K1 K2 K3 cg' FR hp
      go_enter Tryd.func55, Tryd.ntmps55
      go_wp2_with fail
      refine (cs _).mono ?_
      rintro e w' ⟨rfl, rfl⟩
      clear cs
      go_wp2_with fail
      refine (cg _).mono ?_
      rintro e w' ⟨rfl, B⟩
      have HB := Lib.hid B
      clear cg B
      go_wp2_with fail
      refine bodyPost_ret (v := .tuple #[.int .i64 g, .int .i64 (-1), .int .i64 0]) (by simp [results, Tryd.results55, go_sem]) rfl ⟨by rw [k.out], HB.out⟩
    · have k := Lib.hid (K2.out hp h0)
      have hn : ((s : Int) != 0) = true := by rw [bne_iff_ne]; omega
      clear K1 K2 K3 cg' FR cg h0 hp
      go_enter Tryd.func55, Tryd.ntmps55
      go_wp2_with fail
      refine (cs _).mono ?_
      rintro e w' ⟨rfl, rfl⟩
      clear cs
      go_wp2_with fail
      refine bodyPost_ret (v := .tuple #[.int .i64 0, .int .i64 0, .int .i64 9]) (by simp [results, Tryd.results55, go_sem]) rfl ⟨by rw [k.out], Below.refl _ _⟩
theorem rdecode_any (v : Int) (w : World) :
    Calls Tryd.prog 55 #[.int .i64 v] w fun e w' => e = .returned (R3 (decR v)) ∧ Below w.heap.size w w' := by
  by_cases h : 0 ≤ v ∧ v ≤ 65535
  · obtain ⟨n, rfl⟩ : ∃ n : Nat, v = n := ⟨v.toNat, by omega⟩
    rw [decR_nat (by omega)]
    exact rdecode_ok n w (by omega)
  · rw [decR_no h]
    by_cases h0 : v < 0
    all_goals
      first | (have h2 : 65535 < v := by omega) | skip
      clear h
      go_enter Tryd.func55, Tryd.ntmps55
      go_wp2_with fail
      exact bodyPost_ret (v := .tuple #[.int .i64 0, .int .i64 0, .int .i64 2]) (by simp [results, Tryd.results55, go_sem]) rfl ⟨rfl, Below.refl _ _⟩

theorem pop_stop {v k : Nat} (h : v >>> k = 0) (m : Nat) : pop v (k + m) = pop v k := by
  induction m with
  | zero => rfl
  | succ m ih =>
    rw [← Nat.add_assoc, show pop v (k + m + 1) = pop v (k + m) + bitN v (k + m) from rfl, ih]
    unfold bitN
    rw [Nat.shiftRight_add, h]; simp
theorem shr_half (v k : Nat) : v >>> (k + 1) = v >>> k / 2 := by
  rw [Nat.shiftRight_add]; rfl
def shrN (v k : Nat) : Nat := v >>> k
end Go.Proofs.YtbpgbdnfoofnaaaDoor
