/-
  Stage 12: the walks of CodeNext, CodeRanks, CodeCounts.
-/
import Derived.Test.YtbdcegbfmpkmhaaKExaW
set_option linter.unusedSimpArgs false
set_option linter.unusedVariables false
namespace Go.Proofs.Ytbdcegbfmpkmhaa
open Go.RowKit

set_option maxRecDepth 100000 in
set_option maxHeartbeats 3200000 in
theorem nextlaw_walk (t : Option Addr) (len cap : Nat) (zs : List Int) (w : World) (h : IsRow .i64 w t len cap zs) :
    Calls Try.prog 4 #[.slice t len cap] w fun e w' => e = .returned (.bool true) ∧ Below w.heap.size w w' := by
  have HR := Lib.hid (fun T => Rnd.new (T := T) h)
  clear h
  go_enter Try.func4, Try.ntmps4
  go_wp2_with fail
  refine (new_any _ _ _ _).mono ?_
  rintro e w1 ⟨rfl, rfl⟩
  have Q0 := Lib.hid (HR.out 41)
  clear HR
  go_wp2_with fail
  refine (form_law _ _ _ Q0.out.mkr (by omega)).mono ?_
  rintro e w2 ⟨R, V, rfl, hR, hV, k1, k2⟩
  have Q1 := Lib.hid (Q0.out.step k2 k1)
  clear Q0 k1 k2
  go_wp2_with fail
  refine (next_any _ _ _ _ Q1.out.mkr (by omega) (by omega) (by omega)).mono ?_
  rintro e w3 ⟨n, rfl, n1, n2, k1, k2⟩
  have Q2 := Lib.hid (Q1.out.step k2 k1)
  clear Q1 k1 k2
  obtain ⟨N, rfl⟩ := Int.eq_ofNat_of_zero_le n1
  have hN : N < 4200 := by omega
  clear n1 n2
  go_wp2_with fail
  refine (next_code _ _ _ _ (by omega)).mono ?_
  rintro e w4 ⟨rfl, rfl⟩
  rcases next_cases N hR hV with ⟨K, hNK, hc, hno, hz⟩ | ⟨hno, hz⟩
  · rw [hz]
    have hK := (isC_iff.1 hc).1
    have HNO := Lib.hid hno
    have HC := Lib.hid hc
    have his : isZ (K : Int) (R : Int) (V : Int) = true := by rw [isZ_nat hR hV]; exact hc
    have hlt : ¬ (K : Int) < (N : Int) := by omega
    have hltn : decide (K < N) = false := decide_eq_false (by omega)
    have hlti : decide ((K : Int) < (N : Int)) = false := decide_eq_false (by omega)
    clear hno hz hc
    go_wp2_with fail
    refine (is_any _ _ _ _).mono ?_
    rintro e w5 ⟨rfl, rfl⟩
    rw [his]
    clear his
    go_wp2_with fail
    clear hlt hltn hlti
    go_loopw [10] (fun x wr => ∃ X : Nat, N ≤ X ∧ X ≤ K ∧ x = .int .i64 X ∧ Hid (Rnd w wr 3)) (fun x _ => K - (intOf x).toNat)
    case atStart => exact ⟨N, by omega, by omega, rfl, Lib.hid (Q2.out.more (by omega))⟩
    case round =>
      clear Q2
      obtain ⟨X, hX1, hX2, rfl, Q3⟩ := hrel
      by_cases hlt : X < K
      · have hlt' : (X : Int) < (K : Int) := by omega
        have his : isZ (X : Int) (R : Int) (V : Int) = false := by rw [isZ_nat hR hV]; exact HNO.out X hX1 hlt
        go_wp2_with fail
        refine (is_any _ _ _ _).mono ?_
        rintro e w6 ⟨rfl, rfl⟩
        rw [his]
        clear his
        go_wp2_with fail
        go_roundw
        case rel => exact ⟨X + 1, by omega, by omega, by go_num, Q3⟩
        case measure => simp [intOf] <;> omega
      · obtain rfl : X = K := by omega
        clear hlt
        go_wp2_with fail
        refine (next_any _ _ _ _ Q3.out.mkr (by omega) (by omega) (by omega)).mono ?_
        rintro e w6 ⟨j, rfl, j1, j2, k1, k2⟩
        have Q4 := Lib.hid (Q3.out.step k2 k1)
        clear Q3 k1 k2
        obtain ⟨J, rfl⟩ := Int.eq_ofNat_of_zero_le j1
        have hJ : J < 100 := by omega
        clear j1 j2
        go_wp2_with fail
        refine (next_code ((N : Int) + (J : Int)) _ _ _ (by omega)).mono ?_
        rintro e w7 ⟨rfl, rfl⟩
        rcases next_cases (N + J) hR hV with ⟨K2, hNK2, hc2, hno2, hz2⟩ | ⟨hno2, hz2⟩
        · have hle : X ≤ K2 := by
            rcases Nat.lt_or_ge K2 X with g | g
            · rw [HNO.out K2 (by omega) g] at hc2; cases hc2
            · exact g
          have hle' : (X : Int) ≤ (K2 : Int) := by omega
          rw [show ((N : Int) + (J : Int)) = ((N + J : Nat) : Int) by omega] at *
          rw [hz2]
          clear hz2 hno2 hc2 hle
          go_wp2_with fail
          refine (sane_any _).mono ?_
          rintro e w8 ⟨rfl, rfl⟩
          go_wp2_with fail
          go_ret
          exact ⟨rfl, Q4.out.bel⟩
        · rw [show ((N : Int) + (J : Int)) = ((N + J : Nat) : Int) by omega] at *
          rw [hz2]
          clear hz2 hno2
          go_wp2_with fail
          refine (sane_any _).mono ?_
          rintro e w8 ⟨rfl, rfl⟩
          go_wp2_with fail
          go_ret
          exact ⟨rfl, Q4.out.bel⟩
  · rw [hz]
    have HNO := Lib.hid hno
    clear hno hz
    obtain ⟨E, hE⟩ : ∃ E : Nat, min2 ((N : Int) + 300) 4096 = E := by
      have : 0 ≤ min2 ((N : Int) + 300) 4096 := by
        unfold min2; by_cases g : (4096 : Int) < (N : Int) + 300
        · rw [if_pos g]; decide
        · rw [if_neg g]; omega
      exact Int.eq_ofNat_of_zero_le this
    have hmin : ∀ w ts t, (Builtin.min_ ts t #[.int .i64 ((N : Int) + 300), .int .i64 4096]).run Try.prog w = .ok (.int .i64 (E : Int)) w := fun w ts t => by rw [run_min2, hE]
    have hEb : E ≤ 5000 := by
      have : min2 ((N : Int) + 300) 4096 ≤ 5000 := by
        unfold min2; by_cases g : (4096 : Int) < (N : Int) + 300
        · rw [if_pos g]; decide
        · rw [if_neg g]; omega
      omega
    clear hE
    go_wp2_with fail
    clear hmin
    go_loopw [10] (fun x wr => ∃ X : Nat, N ≤ X ∧ X ≤ 9300 ∧ (X = N ∨ X ≤ E) ∧ x = .int .i64 X ∧ Hid (Rnd w wr 3)) (fun x _ => E - (intOf x).toNat)
    case atStart => exact ⟨N, by omega, by omega, Or.inl rfl, rfl, Lib.hid (Q2.out.more (by omega))⟩
    case round =>
      clear Q2
      obtain ⟨X, hX1, hX2, hX3, rfl, Q3⟩ := hrel
      clear hX3
      by_cases hlt : X < E
      · have hlt' : (X : Int) < (E : Int) := by omega
        have his : isZ (X : Int) (R : Int) (V : Int) = false := by rw [isZ_nat hR hV]; exact HNO.out X hX1
        go_wp2_with fail
        refine (is_any _ _ _ _).mono ?_
        rintro e w6 ⟨rfl, rfl⟩
        rw [his]
        clear his
        go_wp2_with fail
        go_roundw
        case rel => exact ⟨X + 1, by omega, by omega, Or.inr (by omega), by go_num, Q3⟩
        case measure => simp [intOf] <;> omega
      · have hlt' : ¬ (X : Int) < (E : Int) := by omega
        clear hlt
        go_wp2_with fail
        refine (next_any _ _ _ _ Q3.out.mkr (by omega) (by omega) (by omega)).mono ?_
        rintro e w6 ⟨j, rfl, j1, j2, k1, k2⟩
        have Q4 := Lib.hid (Q3.out.step k2 k1)
        clear Q3 k1 k2
        obtain ⟨J, rfl⟩ := Int.eq_ofNat_of_zero_le j1
        have hJ : J < 100 := by omega
        clear j1 j2
        go_wp2_with fail
        refine (next_code ((N : Int) + (J : Int)) _ _ _ (by omega)).mono ?_
        rintro e w7 ⟨rfl, rfl⟩
        have hz2 := nextZ_none (N := N + J) (K := 4096 + N + J) hR hV (by omega) (fun x a _ => HNO.out x (by omega))
        rw [show ((N : Int) + (J : Int)) = ((N + J : Nat) : Int) by omega] at *
        rw [hz2]
        clear hz2
        go_wp2_with fail
        refine (sane_any _).mono ?_
        rintro e w8 ⟨rfl, rfl⟩
        go_wp2_with fail
        go_ret
        exact ⟨rfl, Q4.out.bel⟩
end Go.Proofs.Ytbdcegbfmpkmhaa
