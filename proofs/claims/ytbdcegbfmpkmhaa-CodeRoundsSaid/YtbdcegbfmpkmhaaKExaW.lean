/-
  Stage 12: exact; the walk of CodeExact.
-/
import Derived.Test.YtbdcegbfmpkmhaaKSane
set_option linter.unusedSimpArgs false
set_option linter.unusedVariables false
namespace Go.Proofs.Ytbdcegbfmpkmhaa
open Go.RowKit

theorem below_dn {w w1 w2 : World} (h : Below w.heap.size w w1) (h2 : ∃ n, w2 = w1.drewN n) : Below w.heap.size w w2 := by
  obtain ⟨n, rfl⟩ := h2
  exact bdn h
set_option maxRecDepth 100000 in
set_option maxHeartbeats 3200000 in
theorem exact_any (n r v : Int) (w : World) (hn : n ≤ 9223372036854775807) :
    Calls Try.prog 10 #[.int .i64 n, .int .i64 r, .int .i64 v] w fun e w' => e = .returned (.bool true) ∧ Below w.heap.size w w' := by
  go_enter Try.func10, Try.ntmps10
  go_wp2_with fail
  refine (next_code _ _ _ _ hn).mono ?_
  rintro e w1 ⟨rfl, rfl⟩
  generalize hp1 : nextZ n r v = p1
  go_wp2_with fail
  refine (rnext_any _ _ _ _ hn).mono ?_
  rintro e w1 ⟨rfl, hw⟩
  rw [hp1]
  clear hp1
  have B1 := Lib.hid (below_dn (Below.refl w.heap.size w) hw)
  clear hw
  go_wp2_with fail
  refine (is_any _ _ _ _).mono ?_
  rintro e w2 ⟨rfl, rfl⟩
  generalize hb : isZ n r v = b
  go_wp2_with fail
  refine (ris_any _ _ _ _).mono ?_
  rintro e w2 ⟨rfl, hw⟩
  rw [hb]
  clear hb
  have B2 := Lib.hid (below_dn B1.out hw)
  clear hw B1
  have hbb : (b != b) = false := by cases b <;> rfl
  go_wp2_with fail
  refine (count_code _ _ _ _).mono ?_
  rintro e w3 ⟨rfl, rfl⟩
  generalize hp2 : countZ n r v = p2
  go_wp2_with fail
  refine (rcount_any _ _ _ _).mono ?_
  rintro e w3 ⟨rfl, hw⟩
  rw [hp2]
  clear hp2
  have B3 := Lib.hid (below_dn B2.out hw)
  clear hw B2
  go_wp2_with fail
  refine (nth_code _ _ _ _).mono ?_
  rintro e w4 ⟨rfl, rfl⟩
  generalize hp3 : nthZ n r v = p3
  go_wp2_with fail
  refine (rnth_any _ _ _ _ hn).mono ?_
  rintro e w4 ⟨rfl, hw⟩
  rw [hp3]
  clear hp3
  have B4 := Lib.hid (below_dn B3.out hw)
  clear hw B3
  go_wp2_with fail
  refine (rank_code _ _ _ _).mono ?_
  rintro e w5 ⟨rfl, rfl⟩
  generalize hp4 : rankZ n r v = p4
  go_wp2_with fail
  refine (rrank_any _ _ _ _).mono ?_
  rintro e w5 ⟨rfl, hw⟩
  rw [hp4]
  clear hp4
  have B5 := Lib.hid (below_dn B4.out hw)
  clear hw B4
  go_wp2_with fail
  refine (steps_any _ _).mono ?_
  rintro e w6 ⟨rfl, rfl⟩
  generalize hp5 : stepsZ n = p5
  go_wp2_with fail
  refine (rsteps_any _ _).mono ?_
  rintro e w6 ⟨rfl, rfl⟩
  rw [hp5]
  clear hp5
  go_wp2_with fail
  refine (real_any _ _ _).mono ?_
  rintro e w6 ⟨l1, rfl, O1, K1⟩
  have HL := Lib.hid (realL_len n r)
  generalize hzs : realL n r = zs at *
  generalize hze : realE n r = ze at *
  have HZ := Lib.hid (And.intro hzs hze)
  clear hzs hze
  have B6 := Lib.hid (B5.out.trans (K1.mono B5.out.size))
  obtain ⟨A1, c1, rfl, R1⟩ := OwnI.read O1
  have HR1 := Lib.hid R1
  clear B5 O1 K1 R1
  go_wp2_with fail
  refine (rreal_any _ _ _).mono ?_
  rintro e w7 ⟨l2, rfl, O2, K2⟩
  rw [HZ.out.1] at O2
  rw [HZ.out.2]
  have B7 := Lib.hid (B6.out.trans (K2.mono B6.out.size))
  have HR3 := Lib.hid (HR1.out.below K2)
  obtain ⟨A2, c2, rfl, R2'⟩ := OwnI.read O2
  have HR2 := Lib.hid R2'
  have hlz := HL.out
  clear B6 O2 K2 R2' HR1 HZ HL
  have HI := Lib.hid (ints_same zs A1 A2 c1 c2 w7 HR3.out HR2.out (by unfold maxLen; omega))
  clear HR2 HR3
  obtain ⟨L, hL⟩ : ∃ L, L = zs.length := ⟨_, rfl⟩
  rw [← hL] at HI ⊢
  clear hL hlz
  go_wp2_with fail
  refine HI.out.mono ?_
  rintro e w8 ⟨rfl, hw⟩
  have B8 := Lib.hid (below_dn B7.out hw)
  clear hw B7
  go_wp2_with fail
  go_ret
  exact ⟨rfl, B8.out⟩
set_option maxRecDepth 100000 in
set_option maxHeartbeats 3200000 in
theorem exact_walk (t : Option Addr) (len cap : Nat) (zs : List Int) (n r v : Int) (w : World) (h : IsRow .i64 w t len cap zs) (hn1 : -9223372036854775808 ≤ n) (hn : n ≤ 9223372036854775807) :
    Calls Try.prog 3 #[.slice t len cap, .int .i64 n, .int .i64 r, .int .i64 v] w fun e w' => e = .returned (.bool true) ∧ Below w.heap.size w w' := by
  have hR := fun T => Rnd.new (T := T) h
  have HR := Lib.hid hR
  have h50 := tmod_bd n 5000 (by decide)
  clear hR h
  go_enter Try.func3, Try.ntmps3
  go_wp2_with fail
  refine (new_any _ _ _ _).mono ?_
  rintro e w1 ⟨rfl, rfl⟩
  go_wp2_with fail
  go_loopw [10] (fun i wr => ∃ k : Nat, k ≤ 3 ∧ i = .int .i64 k ∧ Hid (Rnd w wr (10 * k))) (fun i _ => 3 - (intOf i).toNat)
  case atStart => exact ⟨0, by omega, rfl, Lib.hid (HR.out _)⟩
  case round =>
    clear HR
    obtain ⟨k, hk, rfl, R0⟩ := hrel
    by_cases hlt : k < 3
    · have hlt' : (k : Int) < 3 := by omega
      go_wp2_with fail
      refine (next_any _ _ _ _ R0.out.mkr (by omega) (by omega) (by omega)).mono ?_
      rintro e wa ⟨a, rfl, a1, a2, k1, k2⟩
      have Q1 := Lib.hid (R0.out.step k2 k1)
      clear R0 k1 k2
      go_wp2_with fail
      refine (next_any _ _ _ _ Q1.out.mkr (by omega) (by omega) (by omega)).mono ?_
      rintro e wb ⟨b, rfl, b1, b2, k1, k2⟩
      have Q2 := Lib.hid (Q1.out.step k2 k1)
      clear Q1 k1 k2
      go_wp2_with fail
      refine (next_any _ _ _ _ Q2.out.mkr (by omega) (by omega) (by omega)).mono ?_
      rintro e wc ⟨c, rfl, c1, c2, k1, k2⟩
      have Q3 := Lib.hid (Q2.out.step k2 k1)
      clear Q2 k1 k2
      have hq := Q3.out.lt
      go_wp2_with fail
      refine (pick_any _ _ (fun v => v ≤ 4100) _ 4 4 _ (Q3.out.alloc _).mkr (by omega) (by omega) (by omega) (by omega) (by simp) (by exact new_pick _ _ _ [a, b, c, -1] (by intro z hz; simp at hz; omega) _ rfl)).mono ?_
      rintro e wd ⟨x, rfl, x1, k1, k2⟩
      have Q4 := Lib.hid ((Q3.out.alloc _).step k2 k1)
      clear Q3 k1 k2 hq
      have hq := Q4.out.lt
      go_wp2_with fail
      refine (pick_any _ _ (fun v => v ≤ 4100) _ 10 10 _ (Q4.out.alloc _).mkr (by omega) (by omega) (by omega) (by omega) (by simp) (by exact new_pick _ _ _ [0, 0, 1, 2, 3, 5, 11, 12, 13, -1] (by decide) _ rfl)).mono ?_
      rintro e we ⟨y, rfl, y1, k1, k2⟩
      have Q5 := Lib.hid ((Q4.out.alloc _).step k2 k1)
      clear Q4 k1 k2 hq
      have hq := Q5.out.lt
      go_wp2_with fail
      refine (pick_any _ _ (fun v => v ≤ 4100) _ 8 8 _ (Q5.out.alloc _).mkr (by omega) (by omega) (by omega) (by omega) (by simp) (by exact new_pick _ _ _ [0, 1, 2, 3, 12, 11, 13, -1] (by decide) _ rfl)).mono ?_
      rintro e wf ⟨z, rfl, z1, k1, k2⟩
      have Q6 := Lib.hid ((Q5.out.alloc _).step k2 k1)
      clear Q5 k1 k2 hq
      go_wp2_with fail
      refine (exact_any _ _ _ _ (by omega)).mono ?_
      rintro e wg ⟨rfl, kb⟩
      have Q7 := Lib.hid ((Q6.out.below kb).more (M := 10 * (k + 1)) (by omega))
      clear Q6 kb
      go_wp2_with fail
      go_roundw
      case rel => exact ⟨k + 1, by omega, by go_num, Q7⟩
      case measure => simp [intOf] <;> omega
    · obtain rfl : k = 3 := by omega
      have B0 := Lib.hid R0.out.bel
      clear R0
      go_wp2_with fail
      refine (exact_any _ _ _ _ hn).mono ?_
      rintro e wa ⟨rfl, kb⟩
      have B1 := Lib.hid (B0.out.trans (kb.mono B0.out.size))
      clear kb B0
      go_wp2_with fail
      refine (exact_any _ _ _ _ (by omega)).mono ?_
      rintro e wb ⟨rfl, kb⟩
      have B2 := Lib.hid (B1.out.trans (kb.mono B1.out.size))
      clear kb B1
      go_wp2_with fail
      refine (sane_any _).mono ?_
      rintro e wc ⟨rfl, rfl⟩
      go_wp2_with fail
      go_ret
      exact ⟨rfl, B2.out⟩
end Go.Proofs.Ytbdcegbfmpkmhaa
