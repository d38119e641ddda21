/-
  Stage 9: the walk of LayoutLimits, given that a valid layout is read as it is written.
-/
import Derived.Test.YtoikjkgepfemjaaGreatDoorLLim
set_option linter.unusedSimpArgs false
set_option linter.unusedVariables false
namespace Go.Proofs.YtoikjkgepfemjaaGreatDoor
open Go.RowKit Go.Lib

set_option maxRecDepth 100000 in
set_option maxHeartbeats 3200000 in
theorem limits_walk (RT : RoundT) (n : Int) (w : World) (D : Dor w) (bd : -9223372036854775808 ≤ n ∧ n ≤ 9223372036854775807) : Calls Tryz.prog 3 #[.int .i64 n] w fun e w' => e = .returned (.bool true) ∧ Below w.heap.size w w' := by
  have HD := Lib.hid D
  have HRT := Lib.hid RT
  clear D RT
  go_enter Tryz.func3, Tryz.ntmps3
  go_upto_region 2 with fail
  obtain ⟨N, hN, hN2⟩ := rem3 n
  rw [hN]
  generalize wrap64 (n.tmod 3 + 3) = y1
  generalize n.tmod 3 = y0
  have hw1 : wrap64 (125 + (N : Int)) = 125 + (N : Int) := IntWalk.wrap64_in _ (by omega)
  have hw2 : wrap64 (30 + (N : Int)) = 30 + (N : Int) := IntWalk.wrap64_in _ (by omega)
  have HL1 := Lib.hid (fun W => line_any (125 + N) W (by omega))
  have HL2 := Lib.hid (fun W => fan_any (30 + N) W (by omega))
  simp only [show ((125 + N : Nat) : Int) = 125 + (N : Int) by omega] at HL1
  simp only [show ((30 + N : Nat) : Int) = 30 + (N : Int) by omega] at HL2
  rw [show lnP (125 + N) (125 + N + 1) = limL N 0 from rfl] at HL1
  rw [show fnL (30 + N) = limL N 1 from rfl] at HL2
  have HN2 := Lib.hid hN2
  clear hN bd hN2
  go_wp2_with fail
  refine (HL1.out _).mono ?_
  rintro e w1 ⟨l1, rfl, O1, B1⟩
  have HO1 := Lib.hid O1
  have HB1 := Lib.hid B1
  clear O1 B1
  go_wp2_with fail
  refine (HL2.out _).mono ?_
  rintro e w2 ⟨l2, rfl, O2, B2⟩
  have HO1 := Lib.hid (HO1.out.below B2)
  have HO2 := Lib.hid O2
  have HB2 := Lib.hid (HB1.out.trans (B2.mono HB1.out.size))
  clear O2 B2 HB1 HL1 HL2
  obtain ⟨A1, c1, rfl, _⟩ := HO1.out.full
  obtain ⟨A2, c2, rfl, _⟩ := HO2.out.full
  have HC3 := Lib.hid (show ∀ j, j < 2 → ∃ A c, (w2.alloc (.cells #[.slice A1 (limL N 0).length c1, .slice A2 (limL N 1).length c2] 22)).cell? ⟨w2.heap.size, j, none⟩ = some (.slice A (limL N j).length c) ∧ ∃ b, ROwn ER 48 (w2.alloc (.cells #[.slice A1 (limL N 0).length c1, .slice A2 (limL N 1).length c2] 22)) b (.slice A (limL N j).length c) (limL N j) from fun j hj => by
    rcases (by omega : j = 0 ∨ j = 1) with rfl | rfl
    · exact ⟨A1, c1, by rw [cell_new]; rfl, _, HO1.out.alloc _⟩
    · exact ⟨A2, c2, by rw [cell_new]; rfl, _, HO2.out.alloc _⟩)
  have HB3 := Lib.hid (HB2.out.alloc HB2.out.size (.cells #[.slice A1 (limL N 0).length c1, .slice A2 (limL N 1).length c2] 22))
  clear HO1 HO2 HB2
  go_wp2_with fail
  generalize w2.alloc (.cells #[.slice A1 (limL N 0).length c1, .slice A2 (limL N 1).length c2] 22) = w3 at HC3 HB3 ⊢
  generalize w2.heap.size = b2 at HC3 ⊢
  go_loopw [22] (fun i wr => ∃ j : Nat, j ≤ 2 ∧ i = .int .i64 (j : Int) ∧ Hid (Below w3.heap.size w3 wr)) (fun i _ => 2 - (intOf i).toNat)
  case atStart => exact ⟨0, by omega, rfl, Lib.hid (Below.refl _ _)⟩
  case round =>
    obtain ⟨j, hj, rfl, B⟩ := hrel
    by_cases hlt : j < 2
    · obtain ⟨A, c, hcell, bb, O⟩ := HC3.out j hlt
      have hcj : wr.cell? ⟨b2, j, none⟩ = some (.slice A (limL N j).length c) := (B.out.cell (lt_of_cell hcell)).trans hcell
      have O' := O.below B.out
      have HO := Lib.hid O'
      obtain ⟨A', c', e9, HR, hlc, _, _, _⟩ := O'.full
      injection e9 with e1 e2 e3
      subst e1; subst e3
      have HPl := Lib.hid (ROwn.plain O')
      have HR := Lib.hid HR
      have HB := Lib.hid (HB3.out.trans (B.out.mono HB3.out.size))
      have HF := Lib.hid (fmt_any (limL N j) A c wr HR.out HPl.out hlc (HD.out.below HB.out) (limL_sz HN2.out))
      have HV := Lib.hid (fun W (b : Below wr.heap.size wr W) => valid_any (limL N j) A c W (HR.out.below b) HPl.out hlc (HD.out.below (HB.out.trans (b.mono HB.out.size))) (limL_sz HN2.out))
      clear O O' hcell
      have hj2 : (j : Int) < 2 := by omega
      go_wp2_with fail
      refine HF.out.mono ?_
      rintro e w4 ⟨rfl, B4⟩
      have HB4 := Lib.hid (B.out.trans (B4.mono B.out.size))
      have HW4 := Lib.hid (HB.out.trans (B4.mono HB.out.size))
      by_cases hn : N = 2
      · have HFE : fmtE (limL N j) = (⟨#[]⟩, 3) := by subst hn; unfold fmtE; rw [limL_bad]; rfl
        have HVE : validE (limL N j) = 3 := by subst hn; exact limL_bad
        rw [HFE]
        have HV4 := Lib.hid (HV.out w4 B4)
        unfold VdPost at HV4
        rw [HVE] at HV4
        have hn1 : (1 : Int) < (N : Int) := by omega
        clear hn HF HV B4 HFE HVE
        go_wp2_with fail
        refine HV4.out.mono ?_
        rintro e w5 ⟨rfl, B5⟩
        have HB5 := Lib.hid (HB4.out.trans (B5.mono HB4.out.size))
        clear B5
        go_wp2_with fail
        go_roundw
        case rel => exact ⟨j + 1, by omega, by go_num, HB5⟩
        case measure => simp [intOf]; omega
      · have HVE : validE (limL N j) = 0 := limL_ok (by have := HN2.out; omega)
        have hfz := fmtE_len (l := limL N j) (by have := limL_len (N := N) (j := j) HN2.out; omega)
        have HFE : (fmtE (limL N j)).2 = 0 := by unfold fmtE; rw [if_pos HVE]
        have HPE := Lib.hid (HRT.out (limL N j) HVE)
        have HP := Lib.hid (parse_any (fmtE (limL N j)).1 w4 hfz (HD.out.below HW4.out))
        rw [HFE]
        generalize (fmtE (limL N j)).1 = s at HP HPE ⊢
        unfold PsPost at HP
        rw [HPE.out] at HP
        have HR4 := Lib.hid (HR.out.below B4)
        have hn1 : ¬ (1 : Int) < (N : Int) := by have := HN2.out; omega
        clear hn HF HV B4 HFE HVE hfz
        go_wp2_with fail
        refine HP.out.mono ?_
        rintro e w5 ⟨v5, rfl, O5, B5⟩
        have HB5 := Lib.hid (HB4.out.trans (B5.mono HB4.out.size))
        obtain ⟨A5, c5, rfl, R5, _⟩ := O5.full
        have HS := Lib.hid (els_same (limL N j) A A5 c c5 w5 (HR4.out.below B5) R5)
        clear B5 O5 R5
        go_wp2_with fail
        refine HS.out.mono ?_
        rintro e w6 ⟨rfl, q, rfl⟩
        have HB6 := Lib.hid (HB5.out.trans ((bdn (n := q) (Below.refl _ w5)).mono HB5.out.size))
        go_wp2_with fail
        go_roundw
        case rel => exact ⟨j + 1, by omega, by go_num, HB6⟩
        case measure => simp [intOf]; omega
    · have HBF := Lib.hid (HB3.out.trans (B.out.mono HB3.out.size))
      have HS := Lib.hid (sane_any wr (HD.out.below HBF.out))
      obtain rfl : j = 2 := by omega
      clear hlt
      go_wp2_with fail
      refine HS.out.mono ?_
      rintro e w7 ⟨rfl, B7⟩
      go_wp2_with fail
      go_ret
      exact ⟨rfl, HBF.out.trans (B7.mono HBF.out.size)⟩
end Go.Proofs.YtoikjkgepfemjaaGreatDoor
