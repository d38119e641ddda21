/-
  Stage 12: the walk of CodeReal.
-/
import Derived.Test.YtbdcegbfmpkmhaaKExaW
set_option linter.unusedSimpArgs false
set_option linter.unusedVariables false
namespace Go.Proofs.Ytbdcegbfmpkmhaa
open Go.RowKit

theorem getD_memL {l : List Int} {j : Nat} (h : j < l.length) : l.getD j 0 ∈ l := by
  rw [List.getD_eq_getElem?_getD, List.getElem?_eq_getElem h]; exact List.getElem_mem h
/-- What the law's loop asks of the list. -/
structure BitL (K R : Nat) (l : List Int) : Prop where
  mem : ∀ j, j < l.length → ∃ e : Nat, l.getD j 0 = (e : Int) ∧ R ≤ e ∧ e < 12
  up : ∀ j, j + 1 < l.length → l.getD j 0 < l.getD (j + 1) 0
  sum : mN R + psum l = K
theorem BitL.of {K R V : Nat} (h : isC R V K = true) (hR : R ≤ 12) : BitL K R (blN K R 12) ∧ (blN K R 12).length ≤ V := by
  obtain ⟨h1, h2, h3⟩ := isC_iff.1 h
  refine ⟨⟨fun j hj => ?_, fun j hj => bl_up 12 j (j + 1) (Nat.lt_succ_self j) hj, ?_⟩, ?_⟩
  · have := bl_mem 12 _ (getD_memL hj)
    obtain ⟨e, he⟩ := Int.eq_ofNat_of_zero_le (show 0 ≤ (blN K R 12).getD j 0 by omega)
    exact ⟨e, he, by omega, by omega⟩
  · have := bl_sum (K := K) (R := R) 12 hR
    rw [h2, show K % 2 ^ 12 = K from Nat.mod_eq_of_lt h1] at this
    unfold mN; omega
  · rw [bl_pc h1 hR]; exact h3
set_option maxRecDepth 100000 in
set_option maxHeartbeats 3200000 in
theorem reallaw_walk (t : Option Addr) (len cap : Nat) (zs : List Int) (w : World) (h : IsRow .i64 w t len cap zs) :
    Calls Try.prog 8 #[.slice t len cap] w fun e w' => e = .returned (.bool true) ∧ Below w.heap.size w w' := by
  have HR := Lib.hid (fun T => Rnd.new (T := T) h)
  clear h
  go_enter Try.func8, Try.ntmps8
  go_wp2_with fail
  refine (new_any _ _ _ _).mono ?_
  rintro e w1 ⟨rfl, rfl⟩
  have Q0 := Lib.hid (HR.out 41)
  clear HR
  go_wp2_with fail
  refine (form_law _ _ _ Q0.out.mkr (by omega)).mono ?_
  rintro e w2 ⟨R, V, rfl, hR, hV, k1, k2⟩
  have Q1 := Lib.hid (Q0.out.step k2 k1)
  clear Q0 k1 k2
  go_wp2_with fail
  refine (next_any _ _ _ _ Q1.out.mkr (by omega) (by omega) (by omega)).mono ?_
  rintro e w3 ⟨n, rfl, n1, n2, k1, k2⟩
  have Q2 := Lib.hid (Q1.out.step k2 k1)
  clear Q1 k1 k2
  obtain ⟨N, rfl⟩ := Int.eq_ofNat_of_zero_le n1
  have hN : N < 4000 := by omega
  clear n1 n2
  go_wp2_with fail
  refine (next_code (N : Int) _ _ _ (by omega)).mono ?_
  rintro e w4 ⟨rfl, rfl⟩
  rcases next_cases N hR hV with ⟨K, hNK, hc, hno, hz⟩ | ⟨hno, hz⟩
  · rw [hz]
    obtain ⟨hK, hm, -⟩ := isC_iff.1 hc
    have hrl := real_yes hR hK (beq_iff_eq.2 hm)
    have hbl := BitL.of hc hR
    have hst := stepsZ_nat hK
    have HX := Lib.hid (And.intro hrl hst)
    have HBL := Lib.hid hbl.1
    have hlen := hbl.2
    clear hno hz hc hm hrl hst hbl
    go_wp2_with fail
    refine (real_any _ _ _).mono ?_
    rw [HX.out.1.1, HX.out.1.2]
    rintro e w5 ⟨l1, rfl, O1, K1⟩
    have HB := Lib.hid (Q2.out.bel.trans (K1.mono Q2.out.bel.size))
    obtain ⟨A, c, rfl, RR⟩ := OwnI.read O1
    have HRR := Lib.hid RR
    clear O1 K1 Q2 RR
    obtain ⟨l, hl⟩ : ∃ l, l = blN K R 12 := ⟨_, rfl⟩
    rw [← hl] at HRR HBL hlen ⊢
    clear hl
    go_wp2_with fail
    refine (steps_any _ _).mono ?_
    rintro e w6 ⟨rfl, rfl⟩
    rw [HX.out.2]
    have HT := Lib.hid (fun g => ln_top (x := K) hK g)
    have hlnb := ln_le K
    have hL0 := Lib.hid (show K = 0 → ln K = 0 from fun g => by rw [g]; rfl)
    generalize ln K = S at *
    clear HX
    obtain ⟨L, hL⟩ : ∃ L, L = l.length := ⟨_, rfl⟩
    have HL := Lib.hid hL
    rw [← hL] at hlen ⊢
    clear hL
    have hpr := pow_run hR
    have hp1 := Nat.two_pow_pos R
    have hp4 := pow_le4096 hR
    have HM := Lib.hid (show ((2 ^ R : Nat) : Int) - 1 = ((mN R + psum (l.take 0) : Nat) : Int) by unfold mN; rw [List.take_zero]; show _ = ((2 ^ R - 1 + 0 : Nat) : Int); omega)
    obtain ⟨M, hM⟩ : ∃ M, M = 2 ^ R := ⟨_, rfl⟩
    rw [← hM] at hpr hp1 hp4 HM
    clear hM
    go_wp2_with fail
    clear hpr
    go_loop [12, 53] (fun s i => ∃ (j : Nat) (s0 : Nat), j ≤ L ∧ i = .int .i64 j ∧ s = .int .i64 s0 ∧ Hid (s0 = mN R + psum (l.take j))) (fun _ i => L - (intOf i).toNat)
    case atStart => exact ⟨0, mN R + psum (l.take 0), by omega, rfl, by rw [HM.out], Lib.hid rfl⟩
    case round =>
      clear HM
      obtain ⟨j, s0, hj, rfl, rfl, HS⟩ := hrel
      by_cases hlt : j < L
      · have hlt' : (j : Int) < (L : Int) := by omega
        obtain ⟨ad, rfl, -, hcell⟩ := HRR.out j (by rw [← HL.out]; exact hlt)
        obtain ⟨E, hE, hE1, hE2⟩ := HBL.out.mem j (by rw [← HL.out]; exact hlt)
        rw [hE] at hcell
        have hpe := pow_run (show E ≤ 12 by omega)
        have hpe2 := pow_le4096 (show E ≤ 12 by omega)
        have HS2 := Lib.hid (show s0 + 2 ^ E = mN R + psum (l.take (j + 1)) by
          rw [psum_take l j (by rw [← HL.out]; exact hlt), hE, HS.out, Int.toNat_natCast]; omega)
        have hsb : s0 ≤ 10000 := by
          rw [HS.out]
          have h1 := HBL.out.sum
          have h2 := psum_le l j
          omega
        obtain ⟨G, hG⟩ : ∃ G, G = 2 ^ E := ⟨_, rfl⟩
        rw [← hG] at hpe hpe2 HS2
        have hpq : ∀ n : Nat, n = E → wrap64 (2 ^ n) = (G : Int) := fun n hn => by rw [hn]; exact hpe
        clear hG hpe
        have g1 : ¬ (E : Int) < (R : Int) := by omega
        have g2 : ¬ (12 : Int) ≤ (E : Int) := by omega
        go_upto_region 12 with fail
        clear hcell
        cases j with
        | zero =>
          clear HS hE
          go_wp2_with fail
          go_round
          case rel => exact ⟨1, s0 + G, by omega, by go_num, by go_num, HS2⟩
          case measure => simp [intOf] <;> omega
        | succ m =>
          obtain ⟨ad2, e2, -, hcell2⟩ := HRR.out m (by rw [← HL.out]; omega)
          injection e2 with e2
          subst e2
          obtain ⟨E2, hE3, hE4, hE5⟩ := HBL.out.mem m (by rw [← HL.out]; omega)
          rw [hE3] at hcell2
          have hup := HBL.out.up m (by rw [← HL.out]; exact hlt)
          rw [hE, hE3] at hup
          have hup' : ¬ (E : Int) ≤ (E2 : Int) := by omega
          have hpos : (0 : Int) < ((m + 1 : Nat) : Int) := by omega
          have hsub : ((m + 1 : Nat) : Int) - 1 = (m : Int) := by omega
          have hm' : (m : Int) < (L : Int) := by omega
          clear HS hE hE3 hup
          go_wp2_with fail
          go_round
          case rel => exact ⟨m + 1 + 1, s0 + G, by omega, by go_num, by go_num, HS2⟩
          case measure => simp [intOf] <;> omega
      · obtain rfl : j = L := by omega
        have hsK : s0 = K := by
          rw [HS.out, HL.out, List.take_length]; exact HBL.out.sum
        subst hsK
        have hlen' : (j : Int) ≤ (V : Int) := by omega
        clear HS
        by_cases hK0 : s0 = 0
        · have hS0 := hL0.out hK0
          subst hS0
          have hz0 : ((s0 : Int) == 0) = true := by rw [beq_iff_eq]; omega
          clear hK0
          go_wp2_with fail
          refine (sane_any _).mono ?_
          rintro e w8 ⟨rfl, rfl⟩
          go_wp2_with fail
          go_ret
          exact ⟨rfl, HB.out⟩
        · obtain ⟨t1, t2⟩ := HT.out hK0
          obtain ⟨S1, rfl⟩ : ∃ S1, S = S1 + 1 := ⟨S - 1, by omega⟩
          rw [Nat.add_sub_cancel] at t2
          have hz0 : ((s0 : Int) == 0) = false := by rw [beq_eq_false_iff_ne]; omega
          have hz1 : (0 : Int) < (s0 : Int) := by omega
          have hdv : (s0 : Int) / 2 ^ S1 = 1 := by rw [cast_shr, t2]; rfl
          clear hK0 t2 HT hL0
          go_wp2_with fail
          refine (sane_any _).mono ?_
          rintro e w8 ⟨rfl, rfl⟩
          go_wp2_with fail
          go_ret
          exact ⟨rfl, HB.out⟩
  · rw [hz]
    clear hno hz
    go_wp2_with fail
    refine (sane_any _).mono ?_
    rintro e w8 ⟨rfl, rfl⟩
    go_wp2_with fail
    go_ret
    exact ⟨rfl, Q2.out.bel⟩
end Go.Proofs.Ytbdcegbfmpkmhaa
