/-
  Stage 8: the walk of ReconcileProof.
-/
import Derived.Test.YtbdiilkdajadcaaDoorRLaw
set_option linter.unusedSimpArgs false
set_option linter.unusedVariables false
namespace Go.Proofs.YtbdiilkdajadcaaDoor
open Go.RowKit

set_option maxRecDepth 100000 in
set_option maxHeartbeats 12800000 in
theorem proof_walk (ts a b : List Int) (AT AA AB : Option Addr) (ct ca cb : Nat) (w : World) (hK : Knd w) (rt : Row .i64 w w.heap.size AT ts) (mt : ts.length ≤ maxLen) (wt : ∀ n ∈ ts, (Lit.int .i64 n).wf = true)
    (ra : Row .i64 w w.heap.size AA a) (ma : a.length ≤ 140737488355328) (pa : a.length ≤ ca) (rb : Row .i64 w w.heap.size AB b) (mb : b.length ≤ 140737488355328) (pb : b.length ≤ cb) :
    Calls Tryd.prog 6 #[.slice AT ts.length ct, .slice AA a.length ca, .slice AB b.length cb] w fun e w' => e = .returned (.bool true) ∧ Below w.heap.size w w' := by
  have HK := Lib.hid hK
  have RT := Lib.hid (And.intro rt (And.intro mt wt))
  have RA := Lib.hid (And.intro ra pa)
  have RB := Lib.hid (And.intro rb pb)
  obtain ⟨la, hla⟩ : ∃ n, n = a.length := ⟨_, rfl⟩
  obtain ⟨lb, hlb⟩ : ∃ n, n = b.length := ⟨_, rfl⟩
  have HLA := Lib.hid hla
  have HLB := Lib.hid hlb
  rw [← hla] at ma ⊢
  rw [← hlb] at mb ⊢
  clear hK rt mt wt ra pa rb pb hla hlb
  go_enter Tryd.func6, Tryd.ntmps6
  go_wp2_with fail
  go_loopw [7] (fun iv wr => ∃ (I : Nat), iv = .int .i64 (I : Int) ∧ I ≤ 2 ∧ Hid (Below w.heap.size w wr)) (fun iv _ => 2 - (intOf iv).toNat)
  case atStart => exact ⟨0, rfl, by omega, Lib.hid (Below.refl _ _)⟩
  case round =>
    obtain ⟨I, rfl, hI, B⟩ := hrel
    by_cases hlt : I < 2
    · have hlti : (I : Int) < 2 := by omega
      go_wp2_with fail
      refine (new_any AT ts.length ct _).mono ?_
      rintro e w1 ⟨rfl, e1⟩
      have K1 := Lib.hid (show IsMk w1 wr.heap.size 0 by rw [e1]; exact mk_row (RT.out.1.below B.out) RT.out.2.1 RT.out.2.2)
      have B1 := Lib.hid (show Below w.heap.size w w1 by rw [e1]; exact B.out.alloc B.out.size _)
      have hwr : w.heap.size ≤ wr.heap.size := B.out.size
      clear e1
      go_wp2_with fail
      refine (lists_any wr.heap.size 0 16 _ K1.out (by omega) (by omega)).mono ?_
      rintro e w2 ⟨vx, vy, xs, ys, rfl, OX, OY, hx, hy, -, M2⟩
      have B2 := Lib.hid (Moves.below B1.out M2 hwr B1.out.size)
      have K2 := Lib.hid (HK.out.below' B2.out)
      obtain ⟨A, c, rfl, LA⟩ := OX.lst (by omega)
      obtain ⟨A', c', rfl, LB⟩ := OY.lst (by omega)
      have LX := Lib.hid LA
      have LY := Lib.hid LB
      generalize xs.length = nx at *
      generalize ys.length = ny at *
      clear LA LB OX OY K1 B1 M2 hx hy hwr B
      have HB60 := Lib.hid (show la + lb ≤ 60 → Lst w2 AA la ca a ∧ Lst w2 AB lb cb b from fun h => ⟨⟨HLA.out, by rw [← HLA.out]; omega, RA.out.1.below B2.out, RA.out.2⟩, ⟨HLB.out, by rw [← HLB.out]; omega, RB.out.1.below B2.out, RB.out.2⟩⟩)
      have wab : IntKind.i64.wrap ((la : Int) + (lb : Int)) = (la : Int) + (lb : Int) := IntWalk.i64_in _ (by omega)
      by_cases h1 : I = 1
      · subst h1
        by_cases h60 : la + lb ≤ 60
        · have h60i : (la : Int) + (lb : Int) ≤ 60 := by omega
          clear LX LY
          have LX := Lib.hid (HB60.out h60).1
          have LY := Lib.hid (HB60.out h60).2
          go_wp2_with fail
          refine (ali_sm K2.out LX.out LY.out).mono ?_
          rintro e w3 ⟨⟨v3, rfl, O3⟩, B3⟩
          obtain ⟨A3, c3, rfl, R3, -⟩ := O3.slice
          have HR3 := Lib.hid R3
          have HL3 := Lib.hid (scr_sml LX.out LY.out)
          have B23 := Lib.hid (B2.out.trans (B3.mono B2.out.size))
          have K3 := Lib.hid (HK.out.below' B23.out)
          have LX3 := Lib.hid (LX.out.below B3)
          have LY3 := Lib.hid (LY.out.below B3)
          clear R3 O3 B3 B2 K2 LX LY
          go_wp2_with fail
          refine (cos_sm K3.out LX3.out LY3.out rfl HR3.out HL3.out).mono ?_
          rintro e w4 ⟨rfl, B4⟩
          rw [cos_scr (lng_no LX3.out.sml LY3.out.sml)]
          have B24 := Lib.hid (B23.out.trans (B4.mono B23.out.size))
          have K4 := Lib.hid (HK.out.below' B24.out)
          have LX4 := Lib.hid (LX3.out.below B4)
          have LY4 := Lib.hid (LY3.out.below B4)
          clear B4 B23 K3 LX3 LY3 HR3 HL3
          go_wp2_with fail
          refine (pot_sm K4.out LX4.out LY4.out).mono ?_
          rintro e w5 ⟨⟨g, k, cg, rfl, P5⟩, B5⟩
          have HP5 := Lib.hid P5
          have B25 := Lib.hid (B24.out.trans (B5.mono B24.out.size))
          have K5 := Lib.hid (HK.out.below' B25.out)
          have LX5 := Lib.hid (LX4.out.below B5)
          have LY5 := Lib.hid (LY4.out.below B5)
          have HY := Lib.hid (fun W (b : Below w.heap.size w W) (hb : Below w5.heap.size w5 W) => ver_yes (HK.out.below' b) (LX5.out.below hb) (LY5.out.below hb) (HP5.out.below hb))
          have HN := Lib.hid (fun W (b : Below w.heap.size w W) (hb : Below w5.heap.size w5 W) => ver_no (HK.out.below' b) (LX5.out.below hb) (LY5.out.below hb) (HP5.out.below hb))
          obtain ⟨C, hC, hc0, hc1⟩ := cst_ex LX5.out LY5.out
          rw [hC] at HY HN ⊢
          have wc : IntKind.i64.wrap (C + 1) = C + 1 := IntWalk.i64_in _ (by omega)
          clear hC P5 B5 B24 K4 LX4 LY4 HP5
          go_wp2_with fail
          refine (HY.out _ B25.out (Below.refl _ _)).mono ?_
          rintro e w6 ⟨rfl, B6⟩
          have B26 := Lib.hid (B25.out.trans (B6.mono B25.out.size))
          have B56 := Lib.hid B6
          clear B6
          go_wp2_with fail
          refine (HN.out _ B26.out B56.out).mono ?_
          rintro e w7 ⟨rfl, B7⟩
          have B27 := Lib.hid (B26.out.trans (B7.mono B26.out.size))
          clear B7 B56 B26 B25 HY HN LX5 LY5 K5
          go_wp2_with fail
          go_roundw
          case rel => exact ⟨_ + 1, by go_num, by omega, B27⟩
          case measure => simp [intOf] <;> omega
        · have h60i : ¬ (la : Int) + (lb : Int) ≤ 60 := by omega
          go_wp2_with fail
          refine (ali_sm K2.out LX.out LY.out).mono ?_
          rintro e w3 ⟨⟨v3, rfl, O3⟩, B3⟩
          obtain ⟨A3, c3, rfl, R3, -⟩ := O3.slice
          have HR3 := Lib.hid R3
          have HL3 := Lib.hid (scr_sml LX.out LY.out)
          have B23 := Lib.hid (B2.out.trans (B3.mono B2.out.size))
          have K3 := Lib.hid (HK.out.below' B23.out)
          have LX3 := Lib.hid (LX.out.below B3)
          have LY3 := Lib.hid (LY.out.below B3)
          clear R3 O3 B3 B2 K2 LX LY
          go_wp2_with fail
          refine (cos_sm K3.out LX3.out LY3.out rfl HR3.out HL3.out).mono ?_
          rintro e w4 ⟨rfl, B4⟩
          rw [cos_scr (lng_no LX3.out.sml LY3.out.sml)]
          have B24 := Lib.hid (B23.out.trans (B4.mono B23.out.size))
          have K4 := Lib.hid (HK.out.below' B24.out)
          have LX4 := Lib.hid (LX3.out.below B4)
          have LY4 := Lib.hid (LY3.out.below B4)
          clear B4 B23 K3 LX3 LY3 HR3 HL3
          go_wp2_with fail
          refine (pot_sm K4.out LX4.out LY4.out).mono ?_
          rintro e w5 ⟨⟨g, k, cg, rfl, P5⟩, B5⟩
          have HP5 := Lib.hid P5
          have B25 := Lib.hid (B24.out.trans (B5.mono B24.out.size))
          have K5 := Lib.hid (HK.out.below' B25.out)
          have LX5 := Lib.hid (LX4.out.below B5)
          have LY5 := Lib.hid (LY4.out.below B5)
          have HY := Lib.hid (fun W (b : Below w.heap.size w W) (hb : Below w5.heap.size w5 W) => ver_yes (HK.out.below' b) (LX5.out.below hb) (LY5.out.below hb) (HP5.out.below hb))
          have HN := Lib.hid (fun W (b : Below w.heap.size w W) (hb : Below w5.heap.size w5 W) => ver_no (HK.out.below' b) (LX5.out.below hb) (LY5.out.below hb) (HP5.out.below hb))
          obtain ⟨C, hC, hc0, hc1⟩ := cst_ex LX5.out LY5.out
          rw [hC] at HY HN ⊢
          have wc : IntKind.i64.wrap (C + 1) = C + 1 := IntWalk.i64_in _ (by omega)
          clear hC P5 B5 B24 K4 LX4 LY4 HP5
          go_wp2_with fail
          refine (HY.out _ B25.out (Below.refl _ _)).mono ?_
          rintro e w6 ⟨rfl, B6⟩
          have B26 := Lib.hid (B25.out.trans (B6.mono B25.out.size))
          have B56 := Lib.hid B6
          clear B6
          go_wp2_with fail
          refine (HN.out _ B26.out B56.out).mono ?_
          rintro e w7 ⟨rfl, B7⟩
          have B27 := Lib.hid (B26.out.trans (B7.mono B26.out.size))
          clear B7 B56 B26 B25 HY HN LX5 LY5 K5
          go_wp2_with fail
          go_roundw
          case rel => exact ⟨_ + 1, by go_num, by omega, B27⟩
          case measure => simp [intOf] <;> omega
      · have h1i : ((I : Int) == 1) = false := beq_eq_false_iff_ne.2 (by omega)
        go_wp2_with fail
        refine (ali_sm K2.out LX.out LY.out).mono ?_
        rintro e w3 ⟨⟨v3, rfl, O3⟩, B3⟩
        obtain ⟨A3, c3, rfl, R3, -⟩ := O3.slice
        have HR3 := Lib.hid R3
        have HL3 := Lib.hid (scr_sml LX.out LY.out)
        have B23 := Lib.hid (B2.out.trans (B3.mono B2.out.size))
        have K3 := Lib.hid (HK.out.below' B23.out)
        have LX3 := Lib.hid (LX.out.below B3)
        have LY3 := Lib.hid (LY.out.below B3)
        clear R3 O3 B3 B2 K2 LX LY
        go_wp2_with fail
        refine (cos_sm K3.out LX3.out LY3.out rfl HR3.out HL3.out).mono ?_
        rintro e w4 ⟨rfl, B4⟩
        rw [cos_scr (lng_no LX3.out.sml LY3.out.sml)]
        have B24 := Lib.hid (B23.out.trans (B4.mono B23.out.size))
        have K4 := Lib.hid (HK.out.below' B24.out)
        have LX4 := Lib.hid (LX3.out.below B4)
        have LY4 := Lib.hid (LY3.out.below B4)
        clear B4 B23 K3 LX3 LY3 HR3 HL3
        go_wp2_with fail
        refine (pot_sm K4.out LX4.out LY4.out).mono ?_
        rintro e w5 ⟨⟨g, k, cg, rfl, P5⟩, B5⟩
        have HP5 := Lib.hid P5
        have B25 := Lib.hid (B24.out.trans (B5.mono B24.out.size))
        have K5 := Lib.hid (HK.out.below' B25.out)
        have LX5 := Lib.hid (LX4.out.below B5)
        have LY5 := Lib.hid (LY4.out.below B5)
        have HY := Lib.hid (fun W (b : Below w.heap.size w W) (hb : Below w5.heap.size w5 W) => ver_yes (HK.out.below' b) (LX5.out.below hb) (LY5.out.below hb) (HP5.out.below hb))
        have HN := Lib.hid (fun W (b : Below w.heap.size w W) (hb : Below w5.heap.size w5 W) => ver_no (HK.out.below' b) (LX5.out.below hb) (LY5.out.below hb) (HP5.out.below hb))
        obtain ⟨C, hC, hc0, hc1⟩ := cst_ex LX5.out LY5.out
        rw [hC] at HY HN ⊢
        have wc : IntKind.i64.wrap (C + 1) = C + 1 := IntWalk.i64_in _ (by omega)
        clear hC P5 B5 B24 K4 LX4 LY4 HP5
        go_wp2_with fail
        refine (HY.out _ B25.out (Below.refl _ _)).mono ?_
        rintro e w6 ⟨rfl, B6⟩
        have B26 := Lib.hid (B25.out.trans (B6.mono B25.out.size))
        have B56 := Lib.hid B6
        clear B6
        go_wp2_with fail
        refine (HN.out _ B26.out B56.out).mono ?_
        rintro e w7 ⟨rfl, B7⟩
        have B27 := Lib.hid (B26.out.trans (B7.mono B26.out.size))
        clear B7 B56 B26 B25 HY HN LX5 LY5 K5
        go_wp2_with fail
        go_roundw
        case rel => exact ⟨_ + 1, by go_num, by omega, B27⟩
        case measure => simp [intOf] <;> omega
    · obtain rfl : I = 2 := by omega
      have h2 : ¬ ((2 : Nat) : Int) < 2 := by decide
      have HK2 := Lib.hid (HK.out.below' B.out)
      go_wp2_with fail
      refine (sane_any _ HK2.out).mono ?_
      rintro e w5 ⟨rfl, B5⟩
      have B6 := Lib.hid (B.out.trans (B5.mono B.out.size))
      clear B5 B HK2
      go_wp2_with fail
      go_ret
      exact ⟨rfl, B6.out⟩
end Go.Proofs.YtbdiilkdajadcaaDoor
