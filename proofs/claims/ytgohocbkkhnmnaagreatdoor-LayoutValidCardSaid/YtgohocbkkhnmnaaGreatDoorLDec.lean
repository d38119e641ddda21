/-
  Stage 9: the reference's Decimal.
-/
import Derived.Test.YtgohocbkkhnmnaaGreatDoorLParse
import Derived.Test.YtgohocbkkhnmnaaGreatDoorLLines
import Derived.Test.YtgohocbkkhnmnaaGreatDoorMkSpoil
set_option linter.unusedSimpArgs false
set_option linter.unusedVariables false
namespace Go.Proofs.YtgohocbkkhnmnaaGreatDoor
open Go.RowKit Go.Lib

theorem dd_small {u : Nat} (h : u < 10) : Lib.decDigits u = [UInt8.ofNat (48 + u)] := by rw [Lib.decDigits, dif_pos h]
theorem dd_big {u : Nat} (h : ¬ u < 10) : Lib.decDigits u = Lib.decDigits (u / 10) ++ [UInt8.ofNat (48 + u % 10)] := by rw [Lib.decDigits, dif_neg h]
theorem so_dig (u : Nat) (h : u < 10) : strOfNums [48 + (u : Int)] = bs [UInt8.ofNat (48 + u)] := by
  have : u = 0 ∨ u = 1 ∨ u = 2 ∨ u = 3 ∨ u = 4 ∨ u = 5 ∨ u = 6 ∨ u = 7 ∨ u = 8 ∨ u = 9 := by omega
  rcases this with h | h | h | h | h | h | h | h | h | h <;> subst h <;> rfl
theorem one_byte_at (W : World) (b : Nat) (v : Int) (h : W.cell? ⟨b, 0, none⟩ = some (.int .u8 v)) : (convert 49 9 (.slice (some ⟨b, 0, none⟩) 1 1)).run Tryz.prog W = .ok (.string (strOfNums [v])) W :=
  run_convert_bytes_arg _ 49 5 Tryz.underlying49 Tryz.underlying5 b 0 1 1 [v] rfl (fun i hi => by
    obtain rfl : i = 0 := by omega
    rw [Nat.zero_add, h]; rfl) 9 Tryz.underlying9
theorem bs_app (a b : List UInt8) : bs (a ++ b) = bs a ++ bs b := by
  apply ba_ext
  simp [bs, ByteArray.data_append]
set_option maxRecDepth 100000 in
set_option maxHeartbeats 1600000 in
theorem decN_any : ∀ (u : Nat), u ≤ 1000000000000 → ∀ (w : World),
    Calls Tryz.prog 24 #[.int .i64 (u : Int)] w fun e w' => e = .returned (.string (bs (Lib.decDigits u))) ∧ Below w.heap.size w w' := by
  intro u
  induction u using Nat.strongRecOn with
  | ind u ih =>
    intro hu w
    have h0 : ¬ ((u : Int) < 0) := by omega
    have hob := one_byte
    by_cases hs : u < 10
    · have hs' : (u : Int) < 10 := by omega
      have HE := Lib.hid (dd_small hs)
      clear ih hu hs
      go_enter Tryz.func24, Tryz.ntmps24
      go_wp2_with fail
      go_ret
      exact ⟨by show Ending.returned (.string (strOfNums [48 + (u : Int)])) = _; rw [HE.out, so_dig _ (by have := hs'; omega)], (Below.refl _ _).alloc (Nat.le_refl _) _⟩
    · have hs' : ¬ ((u : Int) < 10) := by omega
      obtain ⟨q, hq⟩ : ∃ q, q = u / 10 := ⟨_, rfl⟩
      obtain ⟨r, hr⟩ : ∃ r, r = u % 10 := ⟨_, rfl⟩
      have hI := Lib.hid (ih q (by omega) (by omega))
      have HE := Lib.hid (dd_big hs)
      rw [← hq, ← hr] at HE
      have d1 : (u : Int) / 10 = (q : Int) := by omega
      have d2 : (u : Int).tdiv 10 = (q : Int) := by rw [Int.tdiv_eq_ediv_of_nonneg (by omega)]; exact d1
      have m1 : (u : Int) % 10 = (r : Int) := by omega
      have m2 : (u : Int).tmod 10 = (r : Int) := by rw [Int.tmod_eq_emod_of_nonneg (by omega)]; exact m1
      have hr10 : r < 10 := by omega
      have W1 : IntKind.i64.wrap (q : Int) = (q : Int) := IntWalk.i64_in _ (by omega)
      have W2 : IntKind.i64.wrap (48 + (r : Int)) = 48 + (r : Int) := IntWalk.i64_in _ (by omega)
      have W3 : IntKind.u8.wrap (48 + (r : Int)) = 48 + (r : Int) := by
        rcases (by omega : r = 0 ∨ r = 1 ∨ r = 2 ∨ r = 3 ∨ r = 4 ∨ r = 5 ∨ r = 6 ∨ r = 7 ∨ r = 8 ∨ r = 9) with h | h | h | h | h | h | h | h | h | h <;> subst h <;> rfl
      have HR := Lib.hid hr10
      have HL := Lib.hid (show (Lib.decDigits q).length ≤ 20 by rw [Lib.decDigits_length]; exact Lib.nDigits_le20 q (by omega))
      generalize Lib.decDigits q = dq at hI HE HL
      have HC : Hid (∀ X : World, X.heap = w.heap.push (.cells #[.int .u8 (48 + (r : Int))] 5) → X.cell? ⟨w.heap.size, 0, none⟩ = some (.int .u8 (48 + (r : Int)))) := Lib.hid (fun X h => by unfold World.cell?; rw [h]; simp)
      have hod := one_byte_at (w.alloc (.cells #[.int .u8 (48 + (r : Int))] 5)).drew w.heap.size (48 + (r : Int)) (HC.out _ rfl)
      have hcc : ¬ 9223372036854775807 < (bs dq).size + (strOfNums [48 + (r : Int)]).size := by
        rw [size_one]; show ¬ 9223372036854775807 < dq.length + 1; have := HL.out; omega
      have HZ := Lib.hid (so_dig r hr10)
      clear ih hu hs hq hr hr10
      go_enter Tryz.func24, Tryz.ntmps24
      go_upto_region 5 with fail
      go_region_with (first | (go_at_call 24; refine (hI.out _).mono ?_; rintro e wh ⟨rfl, kb⟩; (first | (have hcv := one_byte_at wh w.heap.size (48 + (r : Int)) ((kb.cell (p := ⟨w.heap.size, 0, none⟩) (by simp)).trans (HC.out _ rfl))) | skip); have HKB := Lib.hid (show Below w.heap.size w wh by (first | exact (drew_below' w).trans kb | exact ((drew_below' w).alloc (Nat.le_refl _) _).trans (kb.mono (by simp)) | exact (((Below.refl _ w).alloc (Nat.le_refl _) _).trans ((drew_below' _).mono (by simp))).trans (kb.mono (by simp)))); clear kb))
      all_goals
        go_wp2_with fail
        go_ret
        exact ⟨by show Ending.returned (.string (bs dq ++ strOfNums [48 + (r : Int)])) = _; rw [HE.out, bs_app, HZ.out], by first | exact HKB.out | exact HKB.out.alloc HKB.out.size _⟩
set_option maxRecDepth 100000 in
set_option maxHeartbeats 1600000 in
theorem decimal_any (n : Int) (w : World) (h : -1000000000000 ≤ n ∧ n ≤ 1000000000000) :
    Calls Tryz.prog 24 #[.int .i64 n] w fun e w' => e = .returned (.string (itoB n)) ∧ Below w.heap.size w w' := by
  by_cases h0 : n < 0
  · obtain ⟨u, rfl⟩ : ∃ u : Nat, n = -(u : Int) := ⟨n.natAbs, by omega⟩
    have hI := Lib.hid (decN_any u (by omega) w)
    have HE := Lib.hid (show itoB (-(u : Int)) = bs [45] ++ bs (Lib.decDigits u) by unfold itoB; rw [Lib.itoa_neg u (by omega), ← bs_app]; rfl)
    have HL := Lib.hid (show (Lib.decDigits u).length ≤ 20 by rw [Lib.decDigits_length]; exact Lib.nDigits_le20 u (by omega))
    have N1 : IntKind.i64.wrap (- -(u : Int)) = (u : Int) := by rw [Int.neg_neg]; exact IntWalk.i64_in _ (by omega)
    have N2 : IntKind.i64.wrap (u : Int) = (u : Int) := IntWalk.i64_in _ (by omega)
    generalize Lib.decDigits u = dq at hI HE HL
    have hcc : ¬ 9223372036854775807 < (⟨#[45]⟩ : ByteArray).size + (bs dq).size := by
      show ¬ 9223372036854775807 < 1 + dq.length
      have := HL.out
      omega
    clear h
    go_enter Tryz.func24, Tryz.ntmps24
    go_wp2_with fail
    refine hI.out.mono ?_
    rintro e w1 ⟨rfl, B1⟩
    go_wp2_with fail
    go_ret
    exact ⟨by rw [HE.out]; rfl, B1⟩
  · obtain ⟨u, rfl⟩ : ∃ u : Nat, n = (u : Int) := ⟨n.toNat, by omega⟩
    refine (decN_any u (by omega) w).mono ?_
    rintro e w1 ⟨rfl, B1⟩
    exact ⟨by unfold itoB; rw [Lib.itoa_nonneg], B1⟩
end Go.Proofs.YtgohocbkkhnmnaaGreatDoor
