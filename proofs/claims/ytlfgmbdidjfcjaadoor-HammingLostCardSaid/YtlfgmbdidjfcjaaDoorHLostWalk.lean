/-
  Stage 3: the walk of HammingLost.
-/
import Derived.Test.YtlfgmbdidjfcjaaDoorHPacksWalk
set_option linter.unusedSimpArgs false
set_option linter.unusedVariables false
namespace Go.Proofs.YtlfgmbdidjfcjaaDoor
open Go.RowKit

/-- A remainder brought above nought. -/
theorem res_nat (v : Int) (d : Nat) (hd : 0 < d) : ∃ n : Nat, n < d ∧ (v.tmod d + d) % d = (n : Int) ∧ v.tmod d % d = (n : Int) := by
  have h1 := Int.emod_nonneg (v.tmod d) (b := (d : Int)) (by omega)
  have h2 := Int.emod_lt_of_pos (v.tmod d) (b := (d : Int)) (by omega)
  exact ⟨(v.tmod d % d).toNat, by omega, by rw [Int.add_emod_right]; omega, by omega⟩

set_option maxRecDepth 100000 in
set_option maxHeartbeats 3200000 in
theorem lost_walk (l : List Int) (A : Option Addr) (c : Nat) (at_ p0 q0 : Int) (w : World) (R : RowB .i64 w A l) (D : Dat w) :
    Calls Tryd.prog 9 #[.slice A l.length c, .int .i64 at_, .int .i64 p0, .int .i64 q0] w fun e w' => e = .returned (.bool true) ∧ Below w.heap.size w w' := by
  have HR := Lib.hid R
  have HD := Lib.hid D
  clear R D
  go_enter Tryd.func9, Tryd.ntmps9
  go_wp2_with fail
  refine (values_any l A c _ HR.out).mono ?_
  rintro e w1 ⟨v1, rfl, O1, B1⟩
  have HB1 := Lib.hid B1
  have HP := Lib.hid (packR_vals l)
  have HV := Lib.hid (vals_ok l)
  have ln := vals_len l
  obtain ⟨L, hL⟩ : ∃ L, L = vals l := ⟨_, rfl⟩
  rw [← hL] at O1 HP HV ln
  obtain ⟨A1, c1, rfl, R1, _, _, form1⟩ := Own.slice O1
  have HR1 := Lib.hid (show RowB .i64 w1 A1 L from ⟨R1, by unfold maxLen; omega⟩)
  have HD1 := Lib.hid (HD.out.below B1 HD.out.lt)
  have HO1 := Lib.hid O1
  have HF1 := Lib.hid form1
  clear O1 B1 R1 hL form1
  obtain ⟨n, hn⟩ : ∃ n, n = L.length := ⟨_, rfl⟩
  have HN := Lib.hid hn
  go_wp2_with fail
  refine (pack_any L A1 c1 _ HR1.out.1 HR1.out.2 HD1.out).mono ?_
  rintro e w2 ⟨v2, rfl, O2, B2⟩
  rw [HP.out] at O2 ⊢
  have G0 := Good.start HV.out
  rw [← hn] at ln HO1 ⊢
  clear hn
  obtain ⟨xs, hx0⟩ : ∃ xs, xs = L.flatMap two := ⟨_, rfl⟩
  rw [← hx0] at O2 G0
  have hlen : xs.length = 2 * n := by rw [G0.len, ← HN.out]
  obtain ⟨A2, c2, rfl, _, _, _, hform⟩ := Own.slice O2
  obtain ⟨N, hN⟩ : ∃ N, N = xs.length := ⟨_, rfl⟩
  rw [← hN] at O2
  have HO := Lib.hid O2
  have HG := Lib.hid G0
  have HB2 := Lib.hid B2
  have HF := Lib.hid hform
  have HNN := Lib.hid hN
  have HL0 := Lib.hid hlen
  rw [← hN] at hlen ⊢
  have n1 : N ≤ 2 * n := by omega
  have n2 : 2 * n ≤ N := by omega
  have hne : ((N : Int) != 2 * (n : Int)) = false := by rw [bne_eq_false_iff_eq]; omega
  clear hlen hN G0 O2 B2 hform hx0
  by_cases hn0 : n = 0
  · have he : ((n : Int) == 0) = true := by rw [beq_iff_eq]; omega
    have BW := Lib.hid (HB1.out.trans (HB2.out.mono HB1.out.size))
    clear hn0
    go_wp2_with fail
    refine (sane_any _ (HD.out.below BW.out HD.out.lt)).mono ?_
    rintro e w' ⟨rfl, n4, rfl⟩
    go_wp2_with fail
    go_ret
    exact ⟨rfl, bdn BW.out⟩
  · have he : ((n : Int) == 0) = false := by rw [beq_eq_false_iff_ne]; omega
    obtain ⟨g, rfl, hg1, hg2⟩ := HF.out (by rw [← HNN.out]; omega)
    obtain ⟨g1, rfl, hh1, hh2⟩ := HF1.out (by rw [← HN.out]; omega)
    obtain ⟨k, lk, hk1, hk2⟩ := res_nat at_ n (by omega)
    obtain ⟨p, lp, hp1, hp2⟩ := res_nat p0 16 (by omega)
    obtain ⟨q, lq, hq1, hq2⟩ := res_nat q0 15 (by omega)
    have tp := tmod_bd p0 16 (by decide)
    have tq := tmod_bd q0 15 (by decide)
    have ta := tmod_bd at_ n (by omega)
    have hp1' : (p0.tmod 16 + 16) % 16 = (p : Int) := hp1
    have hp2' : p0.tmod 16 % 16 = (p : Int) := hp2
    have hq1' : (q0.tmod 15 + 15) % 15 = (q : Int) := hq1
    have hq2' : q0.tmod 15 % 15 = (q : Int) := hq2
    clear hp1 hp2 hq1 hq2
    obtain ⟨r, lr, hpr, hr⟩ : ∃ r : Nat, r < 16 ∧ p ≠ r ∧ ((p0.tmod 16 % 16 ≤ q0.tmod 15 % 15 ∧ (q : Int) + 1 = (r : Int)) ∨ (¬ p0.tmod 16 % 16 ≤ q0.tmod 15 % 15 ∧ (q : Int) = (r : Int))) := by
      rw [hp2', hq2']
      by_cases h : p ≤ q
      · exact ⟨q + 1, by omega, by omega, Or.inl ⟨by omega, by omega⟩⟩
      · exact ⟨q, by omega, by omega, Or.inr ⟨by omega, rfl⟩⟩
    have hkL : k < L.length := by rw [← HN.out]; exact lk
    have hxl : xs.length = N := HNN.out.symm
    obtain ⟨j, hj⟩ : ∃ j, j = plc k p := ⟨_, rfl⟩
    obtain ⟨i, hi⟩ : ∃ j, j = plc k r := ⟨_, rfl⟩
    have hjx : j < xs.length := by rw [hxl, hj]; unfold plc; omega
    have hix : i < (flipX xs k p).length := by rw [flipX_len, hxl, hi]; unfold plc; omega
    obtain ⟨x, hx, lx⟩ := HG.out.byt.nat hjx
    obtain ⟨y, hy, ly⟩ := (flipX_byt HG.out.byt k p (by rw [← hj]; exact hjx)).nat hix
    have hj1 : 2 * (k : Int) + 1 - (p : Int) / 8 = (j : Int) := by rw [hj]; unfold plc; omega
    have hi1 : 2 * (k : Int) + 1 - (r : Int) / 8 = (i : Int) := by rw [hi]; unfold plc; omega
    have hj2 : j < N := by rw [← hxl]; exact hjx
    have hi2 : i < N := by rw [← hxl, ← flipX_len xs k p]; exact hix
    have E1 := Lib.hid (flipX_at hj hx)
    have E2 := Lib.hid (flipX_at (xs := flipX xs k p) hi hy)
    have HU := Lib.hid (lost_unpack HG.out HV.out hkL lp lr hpr (by rw [← HN.out]; omega))
    have hcx := HO.out.cell hxl.symm j hjx
    have hfx := HO.out.frozen hxl.symm j
    rw [hx] at hcx
    have w0 : IntKind.i64.wrap (2 * (k : Int)) = 2 * (k : Int) := IntWalk.i64_in _ (by omega)
    have w1' : IntKind.i64.wrap (2 * (k : Int) + 1) = 2 * (k : Int) + 1 := IntWalk.i64_in _ (by omega)
    have w2' : IntKind.i64.wrap (2 * (k : Int) + 1 - (p : Int) / 8) = (j : Int) := by rw [hj1]; exact IntWalk.i64_in _ (by omega)
    have HW0 := Lib.hid w0
    have HW1 := Lib.hid w1'
    have HW2 := Lib.hid w2'
    have HXL := Lib.hid hxl
    have HCX := Lib.hid hcx
    have HFX := Lib.hid hfx
    have HJ := Lib.hid hj1
    have HI := Lib.hid hi1
    have HY := Lib.hid hy
    have HIX := Lib.hid hix
    have K1 := Lib.hid hk1
    have K2 := Lib.hid hk2
    have P1 := Lib.hid hp1'
    have P2 := Lib.hid hp2'
    have Q1 := Lib.hid hq1'
    have Q2 := Lib.hid hq2'
    have HKL := Lib.hid hkL
    clear hk1 hk2 hp1' hp2' hq1' hq2' hj hi hjx hix hx hy hj1 hi1 hxl hcx hfx w0 w1' w2' hkL hpr
    have zn : ((n : Int) == 0) = false := he
    rcases hr with ⟨hc, hr⟩ | ⟨hc, hr⟩
    all_goals
      have HRQ := Lib.hid hr
      clear hr
      go_wp2_with fail
      simp only [K1.out, K2.out, P1.out, P2.out, Q1.out, Q2.out, HRQ.out]
      clear hc tp tq ta zn
      have w0 := HW0.out
      have w1' := HW1.out
      have w2' := HW2.out
      have hcx := HCX.out
      have hfx := HFX.out
      go_region
      rw [chg_run' x p lx lp]
      have S1 := HO.out.store HXL.out.symm j (chg x p : Int)
      rw [← E1.out] at S1
      obtain ⟨w3, e3⟩ : ∃ w3, w3 = (w2.setCell ⟨g, j, none⟩ (.int .u8 (chg x p : Int))).drew := ⟨_, rfl⟩
      rw [← e3]
      have S1' : Own .u8 5 w3 w1.heap.size (.slice (some ⟨g, 0, none⟩) N c2) (flipX xs k p) := by rw [e3]; exact S1
      have B3 : Below w1.heap.size w1 w3 := by rw [e3]; exact (HB2.out.setCell hg1 _).drew
      have hxl2 : (flipX xs k p).length = N := by rw [flipX_len]; exact HXL.out
      have hcy := S1'.cell hxl2.symm i HIX.out
      have hfy := S1'.frozen hxl2.symm i
      rw [HY.out] at hcy
      have w3' : IntKind.i64.wrap (2 * (k : Int) + 1 - (r : Int) / 8) = (i : Int) := by rw [HI.out]; exact IntWalk.i64_in _ (by omega)
      have hi1 := HI.out
      have HS1 := Lib.hid S1'
      have HB3 := Lib.hid B3
      have HXL2 := Lib.hid hxl2
      clear S1 S1' B3 hxl2 e3 hcx hfx w2'
      go_upto_region 11 with fail
      go_region
      rw [chg_run' y r ly lr]
      have S2 := HS1.out.store HXL2.out.symm i (chg y r : Int)
      rw [← E2.out] at S2
      obtain ⟨w4, e4⟩ : ∃ w4, w4 = (w3.setCell ⟨g, i, none⟩ (.int .u8 (chg y r : Int))).drew := ⟨_, rfl⟩
      rw [← e4]
      have S2' : Own .u8 5 w4 w1.heap.size (.slice (some ⟨g, 0, none⟩) N c2) (flipX (flipX xs k p) k r) := by rw [e4]; exact S2
      have B4 : Below w1.heap.size w1 w4 := by rw [e4]; exact (HB3.out.setCell hg1 _).drew
      have O4 : Own .i64 3 w4 w.heap.size (.slice (some ⟨g1, 0, none⟩) n c1) L := HO1.out.below B4
      obtain ⟨u, hcu, hfu⟩ := own_ex O4 HN.out.symm k lk
      have HS2 := Lib.hid S2'
      have HB4 := Lib.hid B4
      have HO4 := Lib.hid O4
      clear S2 S2' B4 O4 e4 hcy hfy w0 w1' w3' hi1
      go_wp2_with fail
      clear hcu hfu
      have S5 := own_far HO4.out HN.out.symm HS2.out (fun e => by
        have e' : g = g1 := by injection e
        omega) k (-1)
      have L5 := HO4.out.store HN.out k (-1)
      have BW5 := (HB1.out.trans (HB4.out.mono HB1.out.size)).setCell (p := ⟨g1, k, none⟩) hh1 (.int .i64 (-1))
      obtain ⟨w5, e5⟩ : ∃ w5, w5 = w4.setCell ⟨g1, k, none⟩ (.int .i64 (-1)) := ⟨_, rfl⟩
      rw [← e5] at S5 L5 BW5 ⊢
      clear e5
      obtain ⟨A5, c5, e5, RX⟩ := Own.rowB S5
      have ea : A5 = some ⟨g, 0, none⟩ := by injection e5 with h1 h2 h3; exact h1.symm
      subst ea
      have hxl3 : (flipX (flipX xs k p) k r).length = N := by rw [flipX_len]; exact HXL2.out
      have cu := unpack_row HU.out.1 (some ⟨g, 0, none⟩) c2 w5 RX HU.out.2 (HD.out.below BW5 HD.out.lt)
      rw [hxl3] at cu
      obtain ⟨A6, c6, e6, RL⟩ := Own.rowB L5
      have ea : A6 = some ⟨g1, 0, none⟩ := by injection e6 with h1 h2 h3; exact h1.symm
      subst ea
      have HBW := Lib.hid BW5
      have HRL := Lib.hid RL
      clear S5 L5 BW5 e5 e6 RX RL hxl3
      refine cu.mono ?_
      rintro e w6 ⟨A3, c3, A4, c4, rfl, R3, R4, B6⟩
      have HR3 := Lib.hid R3
      have HR4 := Lib.hid R4
      have HRL6 := Lib.hid (HRL.out.below B6)
      have HB6 := Lib.hid (HBW.out.trans (B6.mono HBW.out.size))
      rw [List.length_set, ← HN.out]
      clear cu R3 R4 B6
      go_wp2_with fail
      have BA : Below w6.heap.size w6 (w6.alloc (.cells #[.int .i64 (k : Int)] 3)) := (Below.refl _ _).alloc (Nat.le_refl _) _
      have RN : Row .i64 (w6.alloc (.cells #[.int .i64 (k : Int)] 3)) (w6.alloc (.cells #[.int .i64 (k : Int)] 3)).heap.size (some ⟨w6.heap.size, 0, none⟩) [(k : Int)] := row_new [(k : Int)]
      have HR4' := Lib.hid (HR4.out.below BA)
      have HR3' := Lib.hid (HR3.out.below BA)
      have HRL' := Lib.hid (HRL6.out.below BA)
      have HB7 := Lib.hid (HB6.out.trans (BA.mono HB6.out.size))
      have HRN := Lib.hid RN
      obtain ⟨b6, eb⟩ : ∃ b, b = w6.heap.size := ⟨_, rfl⟩
      obtain ⟨w7, e7⟩ : ∃ w7, w7 = w6.alloc (.cells #[.int .i64 (k : Int)] 3) := ⟨_, rfl⟩
      rw [← eb, ← e7] at HRN
      rw [← e7] at HR4' HR3' HRL' HB7
      rw [← eb, ← e7]
      clear BA RN eb e7
      refine (ints_same [(k : Int)] A4 (some ⟨b6, 0, none⟩) c4 1 _ HR4'.out.1 HRN.out (show 1 ≤ maxLen by decide)).mono ?_
      rintro e w' ⟨rfl, n3, rfl⟩
      have ci := ints_same (L.set k (-1)) A3 (some ⟨g1, 0, none⟩) c3 c1 _ (HR3'.out.drewN n3).1 (HRL'.out.drewN n3).1 HR3'.out.2
      rw [List.length_set, ← HN.out] at ci
      go_wp2_with fail
      refine ci.mono ?_
      rintro e w' ⟨rfl, n4, rfl⟩
      clear ci
      go_wp2_with fail
      refine (sane_any _ ((HD.out.below HB7.out HD.out.lt).drewN _)).mono ?_
      rintro e w' ⟨rfl, n5, rfl⟩
      go_wp2_with fail
      go_ret
      exact ⟨rfl, bdn HB7.out⟩
end Go.Proofs.YtlfgmbdidjfcjaaDoor
