/-
  Stage 12: the walks of CodeRanks and CodeCounts.
-/
import Derived.Test.YtbdcegbfmpkmhaaKExaW
set_option linter.unusedSimpArgs false
set_option linter.unusedVariables false
namespace Go.Proofs.Ytbdcegbfmpkmhaa
open Go.RowKit

set_option maxRecDepth 100000 in
set_option maxHeartbeats 3200000 in
theorem ranks_walk (t : Option Addr) (len cap : Nat) (zs : List Int) (w : World) (h : IsRow .i64 w t len cap zs) :
    Calls Try.prog 5 #[.slice t len cap] w fun e w' => e = .returned (.bool true) ∧ Below w.heap.size w w' := by
  have HR := Lib.hid (fun T => Rnd.new (T := T) h)
  clear h
  go_enter Try.func5, Try.ntmps5
  go_wp2_with fail
  refine (new_any _ _ _ _).mono ?_
  rintro e w1 ⟨rfl, rfl⟩
  have Q0 := Lib.hid (HR.out 41)
  clear HR
  go_wp2_with fail
  refine (form_law _ _ _ Q0.out.mkr (by omega)).mono ?_
  rintro e w2 ⟨R, V, rfl, hR, hV, k1, k2⟩
  have Q1 := Lib.hid (Q0.out.step k2 k1)
  clear Q0 k1 k2
  have hq := Q1.out.lt
  go_wp2_with fail
  refine (pick_any _ _ (fun v => 0 ≤ v ∧ v ≤ 2000) _ 7 7 _ (Q1.out.alloc _).mkr (by omega) (by omega) (by omega) (by omega) (by simp) (by exact new_pick _ _ _ [0, 1, 2, 5, 40, 300, 2000] (by decide) _ rfl)).mono ?_
  rintro e w3 ⟨i, rfl, ⟨i1, i2⟩, k1, k2⟩
  have Q2 := Lib.hid ((Q1.out.alloc _).step k2 k1)
  clear Q1 k1 k2 hq
  obtain ⟨I, rfl⟩ := Int.eq_ofNat_of_zero_le i1
  have hI : I ≤ 2000 := by omega
  clear i1 i2
  go_wp2_with fail
  refine (nth_code _ _ _ _).mono ?_
  rintro e w4 ⟨rfl, rfl⟩
  rcases nth_cases I hR hV with ⟨K, hc, hi, hz⟩ | ⟨hle, hz⟩
  · rw [hz]
    have hK := (isC_iff.1 hc).1
    have hrk := rankZ_nat hR hV hc
    rw [hi] at hrk
    have his : isZ (K : Int) (R : Int) (V : Int) = true := by rw [isZ_nat hR hV]; exact hc
    have HC := Lib.hid (And.intro hc hi)
    have HRK := Lib.hid hrk
    have HIS := Lib.hid his
    clear hrk his hc hi hz
    go_wp2_with fail
    refine (rank_code _ _ _ _).mono ?_
    rintro e w5 ⟨rfl, rfl⟩
    rw [HRK.out]
    go_wp2_with fail
    refine (is_any _ _ _ _).mono ?_
    rintro e w5 ⟨rfl, rfl⟩
    rw [HIS.out]
    cases I with
    | zero =>
      go_wp2_with fail
      refine (sane_any _).mono ?_
      rintro e w8 ⟨rfl, rfl⟩
      go_wp2_with fail
      go_ret
      exact ⟨rfl, Q2.out.bel⟩
    | succ I =>
      obtain ⟨B, hBK, hz1, hz2⟩ := nth_pred hR hV HC.out.1 HC.out.2
      have HZ := Lib.hid (And.intro hz1 hz2)
      clear hz1 hz2
      have hpos : (0 : Int) < ((I + 1 : Nat) : Int) := by omega
      have hsub : ((I + 1 : Nat) : Int) - 1 = (I : Int) := by omega
      go_wp2_with fail
      clear hsub hpos
      refine (nth_code _ _ _ _).mono ?_
      rintro e w6 ⟨rfl, rfl⟩
      rw [HZ.out.1]
      go_wp2_with fail
      refine (next_code ((B : Int) + 1) _ _ _ (by omega)).mono ?_
      rintro e w7 ⟨rfl, rfl⟩
      rw [show ((B : Int) + 1) = ((B + 1 : Nat) : Int) by omega] at *
      rw [HZ.out.2]
      have hlt : ¬ (K : Int) ≤ (B : Int) := by omega
      clear hBK
      go_wp2_with fail
      refine (sane_any _).mono ?_
      rintro e w8 ⟨rfl, rfl⟩
      go_wp2_with fail
      go_ret
      exact ⟨rfl, Q2.out.bel⟩
  · rw [hz]
    have HCN := Lib.hid (count_at hR hV)
    have hle' : ((cnt R V 4096 : Nat) : Int) ≤ (I : Int) := by omega
    clear hle hz
    generalize cnt R V 4096 = C at *
    go_wp2_with fail
    refine (count_code _ _ _ _).mono ?_
    rintro e w5 ⟨rfl, rfl⟩
    rw [HCN.out]
    go_wp2_with fail
    refine (sane_any _).mono ?_
    rintro e w8 ⟨rfl, rfl⟩
    go_wp2_with fail
    go_ret
    exact ⟨rfl, Q2.out.bel⟩
set_option maxRecDepth 100000 in
set_option maxHeartbeats 3200000 in
theorem counts_walk (h0 v0 : Int) (w : World) (b1 : -9223372036854775808 ≤ h0 ∧ h0 ≤ 9223372036854775807) (b2 : -9223372036854775808 ≤ v0 ∧ v0 ≤ 9223372036854775807) :
    Calls Try.prog 6 #[.int .i64 h0, .int .i64 v0] w fun e w' => e = .returned (.bool true) ∧ Below w.heap.size w w' := by
  have a1 := tmod_bd h0 13 (by decide)
  have a2 := tmod_bd v0 13 (by decide)
  go_enter Try.func6, Try.ntmps6
  go_upto_region 2 with fail
  obtain ⟨H, hH⟩ := Int.eq_ofNat_of_zero_le (show 0 ≤ (h0.tmod 13 + 13) % 13 by omega)
  obtain ⟨V, hV⟩ := Int.eq_ofNat_of_zero_le (show 0 ≤ (v0.tmod 13 + 13) % 13 by omega)
  have hH12 : H ≤ 12 := by omega
  have hV12 : V ≤ 12 := by omega
  rw [hH, hV]
  generalize (h0.tmod 13 + 13) = d1
  generalize (v0.tmod 13 + 13) = d2
  generalize h0.tmod 13 = d3
  generalize v0.tmod 13 = d4
  clear a1 a2 hH hV
  go_wp2_with fail
  go_loop [5, 6, 7] (fun s b i => ∃ j : Nat, j ≤ V + 1 ∧ j ≤ H + 1 ∧ s = .int .i64 ((chP H j).1 : Nat) ∧ b = .int .i64 ((chP H j).2 : Nat) ∧ i = .int .i64 j) (fun _ _ i => V + 1 - (intOf i).toNat)
  case atStart => exact ⟨0, by omega, by omega, rfl, rfl, rfl⟩
  case round =>
    obtain ⟨j, hj, hjH, rfl, rfl, rfl⟩ := hrel
    have hb := chP_bd hH12 (show j ≤ 14 by omega)
    by_cases hlt : j ≤ V ∧ j ≤ H
    · obtain ⟨hl1, hl2⟩ := hlt
      have HN := Lib.hid (show chP H (j + 1) = ((chP H j).1 + (chP H j).2, (chP H j).2 * (H - j) / (j + 1)) from rfl)
      obtain ⟨S, hS⟩ : ∃ x, x = (chP H j).1 := ⟨_, rfl⟩
      obtain ⟨B, hB⟩ : ∃ x, x = (chP H j).2 := ⟨_, rfl⟩
      rw [← hS, ← hB] at hb HN ⊢
      clear hS hB
      have hq : (B : Int) * ((H : Int) - j) = ((B * (H - j) : Nat) : Int) := by
        rw [Int.natCast_mul]; congr 1; omega
      have hm : B * (H - j) ≤ 4096 * 12 := Nat.mul_le_mul hb.2.1 (by omega)
      go_wp2
      go_round
      case rel => exact ⟨j + 1, by omega, by omega, by rw [HN.out]; go_num, by rw [HN.out]; rfl, by go_num⟩
      case measure => simp [intOf] <;> omega
    · have hW := Lib.hid (show (chP H j).1 = chN H V by
        rcases Nat.lt_or_ge V j with g | g
        · obtain rfl : j = V + 1 := by omega
          rfl
        · obtain rfl : j = H + 1 := by omega
          exact (chP_flat hH12 hV12 (by omega)).symm)
      have hCN := Lib.hid (show countZ (H : Int) 0 (V : Int) = okN (chN H V) from by
        have e := countZ_nat (R := 0) (V := V) (S := H) (by decide) hV12 hH12
        rw [cnt_at (Nat.zero_le _) hH12 hV12, Nat.sub_zero] at e
        exact e)
      have HPW := Lib.hid (show H < 12 → 0 < V → ∃ P : Nat, P = 2 ^ H ∧ wrap64 (2 ^ H) = (P : Int) ∧ P ≤ 4096 ∧ nextZ (P : Int) 0 (V : Int) = okN P ∧ rankZ (P : Int) 0 (V : Int) = okN (chN H V) from fun g1 g2 => by
        have hc := pow_code g1 g2
        refine ⟨2 ^ H, rfl, pow_run hH12, pow_le4096 hH12, ?_, ?_⟩
        · exact nextZ_hit (R := 0) (by decide) hV12 (Nat.le_refl _) hc (fun x a b => by omega)
        · have e := rankZ_nat (R := 0) (by decide) hV12 hc
          rw [cnt_at (Nat.zero_le _) hH12 hV12, Nat.sub_zero] at e
          exact e)
      rw [hW.out]
      generalize hC : chN H V = C at *
      have hCb : C ≤ 4096 := by
        rw [← hC]; exact (chP_bd hH12 (show V + 1 ≤ 14 by omega)).1
      clear hC hW hb
      by_cases hjV : j ≤ V
      · have hjH2 : ¬ j ≤ H := fun g => hlt ⟨hjV, g⟩
        have hjV' : (j : Int) ≤ (V : Int) := by omega
        have hjH' : ¬ (j : Int) ≤ (H : Int) := by omega
        clear hlt
        go_wp2_with fail
        refine (count_code _ _ _ _).mono ?_
        rintro e w1 ⟨rfl, rfl⟩
        rw [hCN.out]
        by_cases hc1 : H < 12
        · by_cases hc2 : 0 < V
          · obtain ⟨P, hP, hp, hPb, hNx, hRk⟩ := HPW.out hc1 hc2
            have HX := Lib.hid (And.intro hNx hRk)
            have hc1' : (H : Int) < 12 := by omega
            have hc2' : (0 : Int) < (V : Int) := by omega
            clear hP hNx hRk
            go_wp2_with fail
            refine (next_code ((P : Nat) : Int) _ _ _ (by omega)).mono ?_
            rintro e w1 ⟨rfl, rfl⟩
            rw [HX.out.1]
            go_wp2_with fail
            refine (rank_code ((P : Nat) : Int) _ _ _).mono ?_
            rintro e w1 ⟨rfl, rfl⟩
            rw [HX.out.2]
            go_wp2_with fail
            refine (sane_any _).mono ?_
            rintro e w8 ⟨rfl, rfl⟩
            go_wp2_with fail
            go_ret
            exact ⟨rfl, Below.refl _ _⟩
          · have hc1' : (H : Int) < 12 := by omega
            have hc2' : ¬ (0 : Int) < (V : Int) := by omega
            go_wp2_with fail
            refine (sane_any _).mono ?_
            rintro e w8 ⟨rfl, rfl⟩
            go_wp2_with fail
            go_ret
            exact ⟨rfl, Below.refl _ _⟩
        · exact absurd hjV (by omega)
      · have hjV' : ¬ (j : Int) ≤ (V : Int) := by omega
        clear hlt
        go_wp2_with fail
        refine (count_code _ _ _ _).mono ?_
        rintro e w1 ⟨rfl, rfl⟩
        rw [hCN.out]
        by_cases hc1 : H < 12
        · by_cases hc2 : 0 < V
          · obtain ⟨P, hP, hp, hPb, hNx, hRk⟩ := HPW.out hc1 hc2
            have HX := Lib.hid (And.intro hNx hRk)
            have hc1' : (H : Int) < 12 := by omega
            have hc2' : (0 : Int) < (V : Int) := by omega
            clear hP hNx hRk
            go_wp2_with fail
            refine (next_code ((P : Nat) : Int) _ _ _ (by omega)).mono ?_
            rintro e w1 ⟨rfl, rfl⟩
            rw [HX.out.1]
            go_wp2_with fail
            refine (rank_code ((P : Nat) : Int) _ _ _).mono ?_
            rintro e w1 ⟨rfl, rfl⟩
            rw [HX.out.2]
            go_wp2_with fail
            refine (sane_any _).mono ?_
            rintro e w8 ⟨rfl, rfl⟩
            go_wp2_with fail
            go_ret
            exact ⟨rfl, Below.refl _ _⟩
          · have hc1' : (H : Int) < 12 := by omega
            have hc2' : ¬ (0 : Int) < (V : Int) := by omega
            go_wp2_with fail
            refine (sane_any _).mono ?_
            rintro e w8 ⟨rfl, rfl⟩
            go_wp2_with fail
            go_ret
            exact ⟨rfl, Below.refl _ _⟩
        · have hc1' : ¬ (H : Int) < 12 := by omega
          go_wp2_with fail
          refine (sane_any _).mono ?_
          rintro e w8 ⟨rfl, rfl⟩
          go_wp2_with fail
          go_ret
          exact ⟨rfl, Below.refl _ _⟩
end Go.Proofs.Ytbdcegbfmpkmhaa
