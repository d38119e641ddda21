/-
  Stage 3: the program's syndrome, spread, gather, Encode, Decode and Distance.
-/
import Derived.Test.YtbpgbdnfoofnaaaDoorHBits
set_option linter.unusedSimpArgs false
set_option linter.unusedVariables false
namespace Go.Proofs.YtbpgbdnfoofnaaaDoor
open Go.RowKit

/-- The places of the data bits lie in the variable's block. -/
structure Dat (w : World) : Prop where
  cs : ∀ k, k < 11 → w.cell? ⟨0, k, none⟩ = some (.int .i64 (pl k : Int))
theorem Dat.lt {w : World} (h : Dat w) : 0 < w.heap.size := lt_of_cell (h.cs 0 (by decide))
theorem Dat.below {w w' : World} {B : Nat} (h : Dat w) (k : Below B w w') (hB : 0 < B) : Dat w' := ⟨fun j hj => (k.cell (p := ⟨0, j, none⟩) hB).trans (h.cs j hj)⟩
theorem Dat.below' {w w' : World} (h : Dat w) (k : Below w.heap.size w w') : Dat w' := h.below k h.lt

theorem syn_lt (w k : Nat) (h : k ≤ 16) : syn w k < 16 := by
  induction k with
  | zero => simp [syn]
  | succ k ih =>
    unfold syn
    have := ih (by omega)
    split
    · exact Nat.xor_lt_two_pow (n := 4) this (by omega)
    · exact this
theorem syndrome_any (v : Nat) (w : World) (hv : v < 9223372036854775808) :
    Calls Tryd.prog 47 #[.int .i64 v] w fun e w' => e = .returned (.int .i64 (syn v 16)) ∧ w = w' := by
  go_enter Tryd.func47, Tryd.ntmps47
  go_wp2
  go_loop [3, 5] (fun s i => ∃ k : Nat, k ≤ 16 ∧ i = .int .i64 k ∧ s = .int .i64 (syn v k)) (fun _ i => 16 - (intOf i).toNat)
  case atStart => exact ⟨0, by omega, rfl, rfl⟩
  case round =>
    obtain ⟨k, hk, rfl, rfl⟩ := hrel
    by_cases hlt : k < 16
    · have hs := syn_lt v k (by omega)
      have hx := xorI (syn v k) k (by omega) (by omega)
      have hn : syn v (k + 1) = if bitN v k = 1 then syn v k ^^^ k else syn v k := rfl
      have HX := Lib.hid hx
      have HN := Lib.hid hn
      clear hx hn
      go_wp2_with fail
      refine (bitAt_any v k _ hv (by omega)).mono ?_
      rintro e w' ⟨rfl, rfl⟩
      rcases bitN_two v k with hb | hb
      · rw [hb]
        have HB := Lib.hid hb
        clear hb
        go_wp2
        go_round
        case rel => exact ⟨k + 1, by omega, by go_num, by rw [HN.out, if_neg (by rw [HB.out]; decide)]⟩
        case measure => simp [intOf]; omega
      · rw [hb]
        have HB := Lib.hid hb
        clear hb
        go_wp2
        go_round
        case rel => exact ⟨k + 1, by omega, by go_num, by rw [HN.out, if_pos HB.out, ← HX.out]⟩
        case measure => simp [intOf]; omega
    · obtain rfl : k = 16 := by omega
      go_wp2
      go_ret
      exact ⟨rfl, rfl⟩

theorem spr_lt (v k : Nat) : spr v k < 65536 := by
  induction k with
  | zero => simp [spr]
  | succ k ih =>
    unfold spr
    refine Nat.or_lt_two_pow (n := 16) ih ?_
    have h := pl_lt k
    have hb := bitN_lt v k
    rw [Nat.shiftLeft_eq]
    have : 2 ^ pl k ≤ 2 ^ 15 := Nat.pow_le_pow_right (by decide) (by omega)
    rcases bitN_two v k with e | e <;> rw [e] <;> omega
theorem gat_lt (w k : Nat) (h : k ≤ 11) : gat w k < 2048 := by
  induction k with
  | zero => simp [gat]
  | succ k ih =>
    unfold gat
    refine Nat.or_lt_two_pow (n := 11) (ih (by omega)) ?_
    rw [Nat.shiftLeft_eq]
    have : 2 ^ k ≤ 2 ^ 10 := Nat.pow_le_pow_right (by decide) (by omega)
    rcases bitN_two w (pl k) with e | e <;> rw [e] <;> omega
theorem Dat.all {w : World} (D : Dat w) : w.cell? ⟨0, 0, none⟩ = some (.int .i64 3) ∧ w.cell? ⟨0, 1, none⟩ = some (.int .i64 5) ∧ w.cell? ⟨0, 2, none⟩ = some (.int .i64 6) ∧ w.cell? ⟨0, 3, none⟩ = some (.int .i64 7) ∧ w.cell? ⟨0, 4, none⟩ = some (.int .i64 9) ∧ w.cell? ⟨0, 5, none⟩ = some (.int .i64 10) ∧ w.cell? ⟨0, 6, none⟩ = some (.int .i64 11) ∧ w.cell? ⟨0, 7, none⟩ = some (.int .i64 12) ∧ w.cell? ⟨0, 8, none⟩ = some (.int .i64 13) ∧ w.cell? ⟨0, 9, none⟩ = some (.int .i64 14) ∧ w.cell? ⟨0, 10, none⟩ = some (.int .i64 15) :=
  ⟨D.cs 0 (by decide), D.cs 1 (by decide), D.cs 2 (by decide), D.cs 3 (by decide), D.cs 4 (by decide), D.cs 5 (by decide), D.cs 6 (by decide), D.cs 7 (by decide), D.cs 8 (by decide), D.cs 9 (by decide), D.cs 10 (by decide)⟩
theorem idx_run (k : Nat) (h : k < 11) (w : World) :
    (Instr.index 82 (.agg #[.int .i64 3, .int .i64 5, .int .i64 6, .int .i64 7, .int .i64 9, .int .i64 10, .int .i64 11, .int .i64 12, .int .i64 13, .int .i64 14, .int .i64 15]) (.int .i64 k)).run Tryd.prog w = .ok (.int .i64 (pl k : Int)) w := by
  have h' : k = 0 ∨ k = 1 ∨ k = 2 ∨ k = 3 ∨ k = 4 ∨ k = 5 ∨ k = 6 ∨ k = 7 ∨ k = 8 ∨ k = 9 ∨ k = 10 := by omega
  rcases h' with rfl | rfl | rfl | rfl | rfl | rfl | rfl | rfl | rfl | rfl | rfl <;> rfl
/-- A bit put at a place. -/
def shN (b p : Nat) : Nat := b <<< p
theorem shl_run (b p : Nat) (hb : b < 2) (hp : p < 16) : IntKind.i64.wrap ((b : Int) * 2 ^ p) = (shN b p : Int) := by
  unfold shN
  have h2 : 2 ^ p ≤ 2 ^ 15 := Nat.pow_le_pow_right (by decide) (by omega)
  have e : (b : Int) * 2 ^ p = ((b <<< p : Nat) : Int) := by rw [Nat.shiftLeft_eq]; simp
  rw [e]
  refine wrapI _ ?_
  rw [Nat.shiftLeft_eq]
  have h3 : b * 2 ^ p ≤ 1 * 2 ^ p := Nat.mul_le_mul_right _ (by omega)
  omega
theorem shl_lt {b p : Nat} (hb : b < 2) (hp : p < 16) : shN b p < 65536 := by
  unfold shN
  have h2 : 2 ^ p ≤ 2 ^ 15 := Nat.pow_le_pow_right (by decide) (by omega)
  rw [Nat.shiftLeft_eq]
  have h3 : b * 2 ^ p ≤ 1 * 2 ^ p := Nat.mul_le_mul_right _ (by omega)
  omega
theorem spread_any (v : Nat) (w : World) (hv : v < 9223372036854775808) (D : Dat w) :
    Calls Tryd.prog 46 #[.int .i64 v] w fun e w' => e = .returned (.int .i64 (spr v 11)) ∧ w = w' := by
  obtain ⟨c0, c1, c2, c3, c4, c5, c6, c7, c8, c9, c10⟩ := D.all
  go_enter Tryd.func46, Tryd.ntmps46
  go_wp2
  clear c0 c1 c2 c3 c4 c5 c6 c7 c8 c9 c10
  go_loop [3, 7] (fun s i => ∃ k : Nat, k ≤ 11 ∧ i = .int .i64 k ∧ s = .int .i64 (spr v k)) (fun _ i => 11 - (intOf i).toNat)
  case atStart => exact ⟨0, by omega, rfl, rfl⟩
  case round =>
    obtain ⟨k, hk, rfl, rfl⟩ := hrel
    by_cases hlt : k < 11
    · have hp := pl_lt k
      have HN := Lib.hid (orI (spr v k) (shN (bitN v k) (pl k)) (by have := spr_lt v k; omega) (by have := shl_lt (bitN_lt v k) hp; omega))
      have HS := Lib.hid (shl_run (bitN v k) (pl k) (bitN_lt v k) hp)
      have hi := idx_run k hlt w
      go_wp2_with fail
      refine (bitAt_any v k _ hv (by omega)).mono ?_
      rintro e w' ⟨rfl, rfl⟩
      clear hi
      have hs := HS.out
      go_wp2
      go_round
      case rel => exact ⟨k + 1, by omega, by go_num, by rw [HN.out]; rfl⟩
      case measure => simp [intOf]; omega
    · obtain rfl : k = 11 := by omega
      go_wp2
      go_ret
      exact ⟨rfl, rfl⟩
theorem gather_any (v : Nat) (w : World) (hv : v < 9223372036854775808) (D : Dat w) :
    Calls Tryd.prog 51 #[.int .i64 v] w fun e w' => e = .returned (.int .i64 (gat v 11)) ∧ w = w' := by
  obtain ⟨c0, c1, c2, c3, c4, c5, c6, c7, c8, c9, c10⟩ := D.all
  go_enter Tryd.func51, Tryd.ntmps51
  go_wp2
  clear c0 c1 c2 c3 c4 c5 c6 c7 c8 c9 c10
  go_loop [3, 7] (fun s i => ∃ k : Nat, k ≤ 11 ∧ i = .int .i64 k ∧ s = .int .i64 (gat v k)) (fun _ i => 11 - (intOf i).toNat)
  case atStart => exact ⟨0, by omega, rfl, rfl⟩
  case round =>
    obtain ⟨k, hk, rfl, rfl⟩ := hrel
    by_cases hlt : k < 11
    · have hp := pl_lt k
      have HN := Lib.hid (orI (gat v k) (shN (bitN v (pl k)) k) (by have := gat_lt v k (by omega); omega) (by have := shl_lt (p := k) (bitN_lt v (pl k)) (by omega); omega))
      have HS := Lib.hid (shl_run (bitN v (pl k)) k (bitN_lt v (pl k)) (by omega))
      have hi := idx_run k hlt w
      go_wp2_with fail
      refine (bitAt_any v (pl k) _ hv (by omega)).mono ?_
      rintro e w' ⟨rfl, rfl⟩
      clear hi
      have hs := HS.out
      go_wp2
      go_round
      case rel => exact ⟨k + 1, by omega, by go_num, by rw [HN.out]; rfl⟩
      case measure => simp [intOf]; omega
    · obtain rfl : k = 11 := by omega
      go_wp2
      go_ret
      exact ⟨rfl, rfl⟩

theorem quiet_mine {P : Program} {f : FuncId} {args : Array Value} {w : World} {n : Nat} {v : Value}
    (h : Calls P f args (w.drewN n) fun e w' => e = .returned v ∧ w.drewN n = w') : Calls P f args (w.drewN n) fun e w'' => e = .returned v ∧ ∃ m, w'' = w.drewN m :=
  h.mono fun _ _ ⟨he, hm⟩ => ⟨he, n, hm.symm⟩
theorem Dat.drewN {w : World} (D : Dat w) (n : Nat) : Dat (w.drewN n) := D.below' ⟨rfl, rfl, rfl, Nat.le_refl _, fun _ _ => rfl⟩
theorem chk_lt {w : Nat} (s k : Nat) (hw : w < 65536) (hk : k ≤ 4) : chk w s k < 65536 := by
  induction k with
  | zero => exact hw
  | succ k ih =>
    unfold chk
    have h4 : 2 ^ k ≤ 2 ^ 3 := Nat.pow_le_pow_right (by decide) (by omega)
    exact Nat.or_lt_two_pow (n := 16) (ih (by omega)) (shl_lt (bitN_lt s k) (by omega))
/-- The places of the check bits. -/
def p2 (k : Nat) : Nat := 2 ^ k
end Go.Proofs.YtbpgbdnfoofnaaaDoor
