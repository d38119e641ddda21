/-
  Stage 16: the walks of AssignDuality and AssignShort.
-/
import Derived.Test.YtknkgcphamhjlaaAPos
import Derived.Test.YtknkgcphamhjlaaALst
set_option linter.unusedSimpArgs false
set_option linter.unusedVariables false
namespace Go.Proofs.Ytknkgcphamhjlaa
open Go.RowKit Go.Lib

theorem vd_lists {a b : List Int} {n : Nat} (hn : n ≤ 30) (la : a.length ≤ n) (lb : b.length ≤ n + 2) (pa : ∀ z ∈ a, PA z) (pb : ∀ z ∈ b, PB z) : Vd a b :=
  ⟨by omega, by omega, fun z hz => by have := pa z hz; exact ⟨this.1, by have := this.2; omega⟩, fun z hz => by have := pb z hz; exact ⟨this.1, by have := this.2; omega⟩⟩
set_option maxRecDepth 100000 in
set_option maxHeartbeats 6400000 in
theorem dual_walk (A : Option Addr) (c : Nat) (zs : List Int) (w : World) (hr : Row .i64 w w.heap.size A zs) (hm : zs.length ≤ maxLen) (hw : ∀ n ∈ zs, (Lit.int .i64 n).wf = true) :
    Calls Try.prog 5 #[.slice A zs.length c] w fun e w' => e = .returned (.bool true) ∧ Below w.heap.size w w' := by
  have K := Lib.hid (mk_row (c := c) (T := 52) hr hm hw)
  have B := Lib.hid ((Below.refl w.heap.size w).alloc (Nat.le_refl _) (.cells #[.slice A zs.length c, .int .i64 0] 52))
  clear hr hw
  go_enter Try.func5, Try.ntmps5
  go_wp2_with fail
  refine (new_any A zs.length c w).mono ?_
  rintro e w1 ⟨rfl, hw1⟩
  rw [← hw1] at K B
  clear hw1 hm
  go_wp2_with fail
  refine (lists_any w.heap.size 0 8 w1 K.out (by omega) (by omega)).mono ?_
  rintro e w2 ⟨va, vb, a, b, B0, rfl, oa, ob, -, -, la, lb, pa, pb, -, mv⟩
  have HB2 := Lib.hid (mv.below B.out (Nat.le_refl _) B.out.size)
  have V := Lib.hid (vd_lists (by omega) la lb pa pb)
  obtain ⟨A1, c1, rfl, r1, -, m1, -⟩ := oa.slice
  obtain ⟨A2, c2, rfl, r2, -, m2, -⟩ := ob.slice
  have HMA := Lib.hid (match_any a b A1 A2 c1 c2 w2 r1 m1 r2 m2)
  have R1 := Lib.hid r1
  have R2 := Lib.hid r2
  have M1 := Lib.hid m1
  have M2 := Lib.hid m2
  obtain ⟨L, hL⟩ : ∃ n, n = a.length := ⟨_, rfl⟩
  obtain ⟨M, hM⟩ : ∃ n, n = b.length := ⟨_, rfl⟩
  have HL := Lib.hid hL
  have HM := Lib.hid hM
  rw [← hL] at HMA ⊢
  rw [← hM] at HMA ⊢
  clear K B oa ob la lb pa pb mv r1 r2 m1 m2 hL hM
  go_wp2_with fail
  refine HMA.out.mono ?_
  rintro e w3 ⟨os, vl, vr, l, r, er, rfl, O, MO, ol, orr, b3⟩
  have R1 := Lib.hid (R1.out.below b3)
  have R2 := Lib.hid (R2.out.below b3)
  have HB3 := Lib.hid (HB2.out.trans (b3.mono HB2.out.size))
  obtain ⟨A3, c3, rfl, r3, -, m3, -⟩ := ol.slice
  obtain ⟨A4, c4, rfl, r4, -, m4, -⟩ := orr.slice
  have R3 := Lib.hid r3
  have R4 := Lib.hid r4
  have M3 := Lib.hid m3
  have M4 := Lib.hid m4
  rcases mout_cases V.out O MO with ⟨rfl, rfl, G, H⟩ | ⟨rfl, rfl, RR, RD, -, -⟩
  · have HFT := Lib.hid (fits_any a b l A1 A2 A3 c1 c2 c3 w3 R1.out M1.out R2.out M2.out R3.out M3.out)
    have HRF := Lib.hid (fun W (k : Below w3.heap.size w3 W) => refused_any a b A1 A2 c1 c2 W (R1.out.below k) M1.out (R2.out.below k) M2.out)
    rw [fit_asg V.out G] at HFT
    rw [refd_hall H] at HRF
    obtain ⟨Z, hZ⟩ : ∃ n, n = l.length := ⟨_, rfl⟩
    rw [← HL.out, ← HM.out, ← hZ] at HFT
    rw [← HL.out, ← HM.out] at HRF
    rw [← hZ]
    clear HMA O MO ol orr b3 r3 r4 m3 m4 G H hZ HB2
    go_wp2_with fail
    refine HFT.out.mono ?_
    rintro e w4 ⟨rfl, b4⟩
    have HB4 := Lib.hid b4
    clear b4 HFT
    go_wp2_with fail
    refine (HRF.out w4 HB4.out).mono ?_
    rintro e w5 ⟨rfl, hw⟩
    subst hw
    clear HRF
    go_wp2_with fail
    refine (sane_any w4).mono ?_
    rintro e w6 ⟨rfl, b6⟩
    have HB6 := Lib.hid (HB3.out.trans ((HB4.out.trans (b6.mono HB4.out.size)).mono HB3.out.size))
    clear b6
    go_wp2_with fail
    go_ret
    exact ⟨rfl, HB6.out⟩
  · have HFT := Lib.hid (refuses_any a b r A1 A2 A4 c1 c2 c4 w3 R1.out M1.out R2.out M2.out R4.out M4.out)
    have HRF := Lib.hid (fun W (k : Below w3.heap.size w3 W) => refused_any a b A1 A2 c1 c2 W (R1.out.below k) M1.out (R2.out.below k) M2.out)
    rw [RR] at HFT
    rw [RD] at HRF
    obtain ⟨Z, hZ⟩ : ∃ n, n = r.length := ⟨_, rfl⟩
    rw [← HL.out, ← HM.out, ← hZ] at HFT
    rw [← HL.out, ← HM.out] at HRF
    rw [← hZ]
    clear HMA O MO ol orr b3 r3 r4 m3 m4 RR RD hZ HB2
    go_wp2_with fail
    refine HFT.out.mono ?_
    rintro e w4 ⟨rfl, b4⟩
    have HB4 := Lib.hid b4
    clear b4 HFT
    go_wp2_with fail
    refine (HRF.out w4 HB4.out).mono ?_
    rintro e w5 ⟨rfl, hw⟩
    subst hw
    clear HRF
    go_wp2_with fail
    refine (sane_any w4).mono ?_
    rintro e w6 ⟨rfl, b6⟩
    have HB6 := Lib.hid (HB3.out.trans ((HB4.out.trans (b6.mono HB4.out.size)).mono HB3.out.size))
    clear b6
    go_wp2_with fail
    go_ret
    exact ⟨rfl, HB6.out⟩
set_option maxRecDepth 100000 in
set_option maxHeartbeats 6400000 in
theorem short_walk (A : Option Addr) (c : Nat) (zs : List Int) (w : World) (hr : Row .i64 w w.heap.size A zs) (hm : zs.length ≤ maxLen) (hw : ∀ n ∈ zs, (Lit.int .i64 n).wf = true) :
    Calls Try.prog 6 #[.slice A zs.length c] w fun e w' => e = .returned (.bool true) ∧ Below w.heap.size w w' := by
  have K := Lib.hid (mk_row (c := c) (T := 52) hr hm hw)
  have B := Lib.hid ((Below.refl w.heap.size w).alloc (Nat.le_refl _) (.cells #[.slice A zs.length c, .int .i64 0] 52))
  clear hr hw
  go_enter Try.func6, Try.ntmps6
  go_wp2_with fail
  refine (new_any A zs.length c w).mono ?_
  rintro e w1 ⟨rfl, hw1⟩
  rw [← hw1] at K B
  clear hw1 hm
  go_wp2_with fail
  refine (lists_any w.heap.size 0 4 w1 K.out (by omega) (by omega)).mono ?_
  rintro e w2 ⟨va, vb, a, b0, B0, rfl, oa, ob, -, -, la, lb, pa, pb, -, mv⟩
  have HB2 := Lib.hid (mv.below B.out (Nat.le_refl _) B.out.size)
  obtain ⟨A1, c1, rfl, r1, -, m1, -⟩ := oa.slice
  obtain ⟨A2, c2, rfl, r2, hc2, m2, -⟩ := ob.slice
  have R1 := Lib.hid r1
  have M1 := Lib.hid m1
  obtain ⟨L, hL⟩ : ∃ n, n = a.length := ⟨_, rfl⟩
  have HL := Lib.hid hL
  obtain ⟨M0, hM0⟩ : ∃ n, n = b0.length := ⟨_, rfl⟩
  have R2 := Lib.hid (r2.take 5)
  have LA := Lib.hid la
  have PAA := Lib.hid pa
  have PBB := Lib.hid (show ∀ z ∈ b0.take 5, PB z from fun z hz => pb z (List.mem_of_mem_take hz))
  have HLB := Lib.hid (show (b0.take 5).length = if 5 < M0 then 5 else M0 by rw [List.length_take, hM0]; split <;> omega)
  rw [← hM0] at hc2 ⊢
  rw [← hL]
  clear K B oa ob la lb pa pb mv r1 r2 m1 m2 hL hM0
  generalize b0.take 5 = b at *
  obtain ⟨M, hM⟩ : ∃ n, n = b.length := ⟨_, rfl⟩
  have HM := Lib.hid hM
  rw [← hM] at HLB
  have V := Lib.hid (vd_lists (a := a) (b := b) (n := 4) (by omega) LA.out (by rw [← hM, HLB.out]; split <;> omega) PAA.out PBB.out)
  have hM5 : M ≤ 5 := by rw [HLB.out]; split <;> omega
  have hL4 : L ≤ 4 := by rw [HL.out]; exact LA.out
  have HMA := Lib.hid (match_n a b L M HL.out HM.out A1 A2 c1 c2 w2 R1.out (by unfold maxLen; omega) R2.out (by unfold maxLen; omega))
  clear hM LA PAA PBB
  go_upto_if 18 with fail
  obtain ⟨cb, hcb⟩ : ∃ cb, cb = decide ((5 : Int) < (M0 : Int)) := ⟨_, rfl⟩
  rw [← hcb]
  have HCB := Lib.hid hcb
  clear hcb
  go_cut [5] from 19 to 20 (fun bv wx => bv = .slice A2 M c2 ∧ Hid (wx = w2))
  case first =>
    cases cb with
    | true =>
      have h5 : 5 < M0 := by have := of_decide_eq_true HCB.out.symm; omega
      have hM5' : M = 5 := by rw [HLB.out, if_pos h5]
      have hsl : (Instr.slice 22 (.slice A2 M0 c2) none (some (.int .i64 5)) none).run Try.prog w2 = .ok (.slice A2 5 c2) w2 := slice_to A2 M0 c2 5 w2 (by omega)
      have HM5 := Lib.hid hM5'
      clear hM5'
      go_wp2_with fail
      go_meet
      case rel => exact ⟨by rw [HM5.out], by first | exact Lib.hid rfl | exact Lib.hid trivial⟩
    | false =>
      have h5 : ¬ 5 < M0 := by have := of_decide_eq_false HCB.out.symm; omega
      have HM5 := Lib.hid (show M = M0 by rw [HLB.out, if_neg h5])
      go_wp2_with fail
      go_meet
      case rel => exact ⟨by rw [HM5.out], by first | exact Lib.hid rfl | exact Lib.hid trivial⟩
  case rest =>
    obtain ⟨rfl, hw⟩ := hcut
    have hw := hw.out
    subst hw
    clear HCB HLB hc2
    go_wp2_with fail
    refine HMA.out.mono ?_
    rintro e w3 ⟨os, vl, vr, l, r, er, rfl, O, MO, -, -, b3⟩
    have R1 := Lib.hid (R1.out.below b3)
    have R2 := Lib.hid (R2.out.below b3)
    have HB3 := Lib.hid (HB2.out.trans (b3.mono HB2.out.size))
    have HP := Lib.hid (mout_pos V.out O MO)
    clear HMA O MO b3 HB2
    have mk := make_bools w3 M (by omega)
    obtain ⟨CB, hCB⟩ : ∃ C, C = ((List.replicate M false).map Value.bool).toArray := ⟨_, rfl⟩
    have hbs := BSet.new w3 (List.replicate M false) w3.heap.size rfl
    rw [← hCB] at mk hbs
    clear hCB
    have BX := Lib.hid ((Below.refl w3.heap.size w3).alloc (Nat.le_refl _) (.cells CB 4))
    have HPS := Lib.hid (possible_any a b A1 A2 c1 c2 L M w3.heap.size HL.out HM.out (by omega) (by omega) L 0 (by omega) (by omega) (List.replicate M false) _ (by simp) hbs (R1.out.under BX.out) (R2.out.under BX.out))
    rw [List.drop_zero, HM.out, ← HP.out, ← HM.out] at HPS
    clear hbs
    go_wp2_with fail
    clear mk
    refine HPS.out.mono ?_
    rintro e w4 ⟨rfl, -, b4⟩
    have HB4 := Lib.hid (HB3.out.trans ((BX.out.trans b4).mono HB3.out.size))
    clear HPS b4
    have hbb : ((er == 0) == (er == 0)) = true := by simp
    go_wp2_with fail
    refine (sane_any w4).mono ?_
    rintro e w6 ⟨rfl, b6⟩
    have HB6 := Lib.hid (HB4.out.trans (b6.mono HB4.out.size))
    clear b6
    go_wp2_with fail
    go_ret
    exact ⟨rfl, HB6.out⟩
end Go.Proofs.Ytknkgcphamhjlaa
