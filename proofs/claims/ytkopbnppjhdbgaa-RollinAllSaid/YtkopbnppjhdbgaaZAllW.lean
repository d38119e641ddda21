/-
  Stage 14: the walk of RollinAll.
-/
import Derived.Test.YtkopbnppjhdbgaaZAllP
set_option linter.unusedSimpArgs false
set_option linter.unusedVariables false
namespace Go.Proofs.Ytkopbnppjhdbgaa
open Go.RowKit Go.Lib

set_option maxRecDepth 100000 in
set_option maxHeartbeats 3200000 in
theorem all_walk (n bl : Int) (w : World) (hn1 : -9223372036854775808 ≤ n) (hn2 : n ≤ 9223372036854775807) (hb1 : -9223372036854775808 ≤ bl) (hb2 : bl ≤ 9223372036854775807) :
    Calls Try.prog 3 #[.int .i64 n, .int .i64 bl] w fun e w' => e = .returned (.bool true) ∧ Below w.heap.size w w' := by
  obtain ⟨i0, hi, hz0, hz1, hz2⟩ := info_parts infoIt
  have a1 := tmod_bd n 3 (by decide)
  have a3 := tmod_bd bl 4 (by decide)
  obtain ⟨N, hN⟩ := Int.eq_ofNat_of_zero_le (show 0 ≤ 96 - n.tmod 3 % 3 by omega)
  have hN1 : 94 ≤ N ∧ N ≤ 96 := by omega
  obtain ⟨Bl, hBl⟩ : ∃ x, x = bl.tmod 4 % 4 := ⟨_, rfl⟩
  have hB1 : 0 ≤ Bl ∧ Bl ≤ 3 := by omega
  go_enter Try.func3, Try.ntmps3
  go_upto_region 2 with fail
  generalize n.tmod 3 = tn at *
  clear hN a1
  generalize (tn + 3) % 3 = d1
  generalize tn + 3 = d3
  have G00 := Lib.hid (show GSt w ((w.alloc (.cells #[.slice none 0 0, .int .i64 12] 24)).alloc (.cells #[.int .i64 12, .slice none 0 0] 27)) w.heap.size (w.heap.size + 1) none 0 (allL Bl 0) none 0 (allV 0) from by
    have e1 : (w.alloc (.cells #[.slice none 0 0, .int .i64 12] 24)).heap.size = w.heap.size + 1 := by simp
    have B1 := (Below.refl w.heap.size w).alloc (Nat.le_refl _) (.cells #[.slice none 0 0, .int .i64 12] 24)
    have B2 := (Below.refl _ (w.alloc (.cells #[.slice none 0 0, .int .i64 12] 24))).alloc (Nat.le_refl _) (.cells #[.int .i64 12, .slice none 0 0] 27)
    have J0 := JBox.new (w := w) (A := none) (n := 0) (c := 0) (wt := 12) w.heap.size rfl
    exact ⟨⟨J0.below B2 J0.lt, fun j => (B2.frozen (p := ⟨w.heap.size, j, none⟩) J0.lt).trans (frozen_new _ _ _ _ _ rfl), IOwn.nil, Own.nil, (fun g hg => absurd hg (by simp [Value.ownBlock])), B1.trans (B2.mono B1.size), by omega, by simp⟩, PBox.new (w := w.alloc (.cells #[.slice none 0 0, .int .i64 12] 24)) (st := 12) (A := none) (n := 0) (c := 0) (w.heap.size + 1) e1.symm, Nat.lt_succ_self _⟩)
  obtain ⟨bp, hbp⟩ : ∃ x, x = w.heap.size := ⟨_, rfl⟩
  obtain ⟨pb, hpb⟩ : ∃ x, x = w.heap.size + 1 := ⟨_, rfl⟩
  go_upto_region 4 with fail
  rw [← hpb, ← hbp] at G00
  try rw [← hpb]
  try rw [← hbp]
  generalize (w.alloc (.cells #[.slice none 0 0, .int .i64 12] 24)).alloc (.cells #[.int .i64 12, .slice none 0 0] 27) = w1 at *
  have HG0 := G00
  have HBP := Lib.hid hbp
  have HOR := Lib.hid (show bp < pb by omega)
  clear G00 hbp hpb
  go_wp2_with fail
  go_loopw [7] (fun iv wr => ∃ (i : Nat) (Ap : Option Addr) (cp : Nat) (vA : Option Addr) (vc : Nat), i ≤ N ∧ iv = .int .i64 (i : Int) ∧ Hid (GSt w wr bp pb Ap cp (allL Bl i) vA vc (allV i))) (fun iv _ => N - (intOf iv).toNat)
  case atStart => exact ⟨0, none, 0, none, 0, by omega, rfl, HG0⟩
  case round =>
    clear HG0
    obtain ⟨i, Ap, cp, vA, vc, hi', rfl, G⟩ := hrel
    have HLL := Lib.hid (allL_len Bl i)
    have HVL := Lib.hid (allV_len i)
    by_cases hlt : i < N
    · obtain ⟨j0, j1, jl⟩ := G.out.t.box
      obtain ⟨p0, p1, pf, pl⟩ := G.out.p
      have pf1 := pf 1
      have jf0 := G.out.t.fz 0
      have HSI := Lib.hid (allL_succ Bl i)
      have HSV := Lib.hid (allV_succ i)
      have hlt' : (i : Int) < (N : Int) := by omega
      rw [HLL.out] at j0
      rw [HVL.out] at p1
      obtain ⟨ps, hps⟩ : ∃ ps, ps = allL Bl i := ⟨_, rfl⟩
      rw [← hps] at G HLL HSI
      obtain ⟨v, hv⟩ : ∃ v, v = allV i := ⟨_, rfl⟩
      rw [← hv] at G HVL HSV
      have HPL := Lib.hid (show i = ps.length from HLL.out.symm)
      have hB2 : bl.tmod 4 % 4 = Bl := hBl.symm
      clear hps hv hBl pf
      go_wp2_with (first
        | (at_builtin; refine wpList_append_lies _ rfl (.tmp 31) (.tmp 37) 22 rfl (pb + 1) 29 i0 (.agg #[.int .i64 0, .int .i64 0, .int .i64 0, .int .i64 0]) 4 32 Try.underlying22 hi hz0 hz1 hz2 rfl (by decide) _ i ((flatI ps).map (Value.int .i64)) rfl (show World.ownsRow _ (pb + 1) 29 4 (.slice Ap i cp) i ((flatI ps).map (Value.int .i64)) from by have := G.out.t.its; unfold IOwn Flat at this; rw [← HPL.out] at this; exact World.ownsRow.alloc this _) ⟨wr.heap.size, 0, none⟩ 1 1 ((flatI [(0, Bl, 0, 400)]).map (Value.int .i64)) rfl rfl (news_int (W := wr) (ys := flatI [(0, Bl, 0, 400)])) (one_cells (ys := flatI [(0, Bl, 0, 400)])) (by decide) (by unfold maxLen; omega) (by omega) (by have := G.out.t.le; simp only [World.size_alloc]; omega) _ rfl ?_; intro g7 cap w8 hown hgr hat hlt2; rw [HPL.out] at hown hgr hat; have AP := IOwn.app (l := ps) (m := [(0, Bl, 0, 400)]) hown rfl rfl; have hG2 := (G.out.below ((Below.refl _ _).alloc (Nat.le_refl _) (.cells #[.int .i64 0, .int .i64 Bl, .int .i64 0, .int .i64 400] 29))).app1 (p := (0, Bl, 0, 400)) (by rw [List.length_append]; exact AP) hgr hat; obtain ⟨G2, ⟨u, hu⟩, hfu⟩ := hG2; simp only [List.length_append, List.length_cons, List.length_nil, Nat.zero_add] at G2; rw [← HPL.out] at G2; have HG2 := Lib.hid G2; have q1 := G2.p.c1; rw [HVL.out] at q1; clear hown hgr hat hlt2 AP G2 p1 p0 j0 j1)
        | (at_builtin; refine wpList_appI _ rfl (.tmp 41) (.tmp 42) rfl (pb + 1) _ v rfl (by have := HG2.out.t.wan; rw [HVL.out] at this; exact this.alloc _) 4095 (w8.setCell ⟨bp, 0, none⟩ (.slice (some ⟨g7, 0, none⟩) (i + 1) cap)) rfl w8.heap.size (by rw [World.size_setCell]) 1 rfl (by rw [HVL.out]; omega) (le_allocW HG2.out.t.le) ?_; intro v5 w9 A5; have hG3 := (HG2.out.below ((Below.refl _ _).alloc (Nat.le_refl _) (.cells #[.int .i64 4095] 3))).app2 (by rw [HVL.out]; exact A5); clear A5; obtain ⟨⟨u2, hu2⟩, hfu2, vA', vc', ev, G3⟩ := hG3; subst ev; have HG3 := Lib.hid G3; clear G3 q1 hu hfu))
      go_roundw
      case rel => exact ⟨i + 1, some ⟨g7, 0, none⟩, cap, vA', vc', by omega, by go_num, by rw [HSI.out, HSV.out]; have h3 := HG3.out; simp only [List.length_append, List.length_cons, List.length_nil, Nat.zero_add] at h3; exact Lib.hid h3⟩
      case measure => simp [intOf]; omega
    · obtain rfl : i = N := by omega
      have HPL := Lib.hid (all_pl (n := i) hB1 hN1.2)
      obtain ⟨o1, o2, o3, o4, o5⟩ := all_out (n := i) hB1 (by omega) hN1.2
      have HTT := Lib.hid o1
      have HMM := Lib.hid (show ((mM 12 (allL Bl i).length (cdN (allV i)) (rdN (allL Bl i)) (12 + 1) : Nat) : Int) = 13 * (i : Int) by rw [HLL.out, o2]; omega)
      have HMP := Lib.hid (show pushZ (allL Bl i) 12 12 (allV i) = (13, 0) by
        unfold pushZ
        have h0 : val14 (allL Bl i) 12 12 (allV i) = 0 := HPL.out.val14
        rw [if_pos h0, show (12 : Int).toNat = 12 from rfl, HLL.out, o3]
        rfl)
      have HMT := Lib.hid (show (mT 12 (allL Bl i).length (tnT (allL Bl i)) (cdN (allV i)) (rdN (allL Bl i)) (tnN (allL Bl i)) (12 + 1)).getD 0 [] = List.range i by rw [HTT.out, HLL.out] ; exact o4)
      have HML := Lib.hid (show (mT 12 (allL Bl i).length (tnT (allL Bl i)) (cdN (allV i)) (rdN (allL Bl i)) (tnN (allL Bl i)) (12 + 1)).length = 1 by rw [mT_len, HTT.out])
      have HLD := Lib.hid o5
      have HV0 := Lib.hid (show val14 (allL Bl i) 12 12 (allV i) = 0 from HPL.out.val14)
      clear o1 o2 o3 o4 o5 hBl
      obtain ⟨l, hl⟩ : ∃ l, l = allL Bl i := ⟨_, rfl⟩
      obtain ⟨v, hv⟩ : ∃ v, v = allV i := ⟨_, rfl⟩
      rw [← hl] at HPL HTT HMM HMP HMT HML HLD HV0 HLL G
      rw [← hv] at HPL HMM HMP HMT HML HLD HV0 HVL G
      clear hl hv hlt
      have HRU := Lib.hid (fun (W : World) (k : IRow W Ap l) (q : Row .i64 W W.heap.size vA v) => run_any l Ap cp i 12 12 v vA i vc HLL.out.symm HVL.out.symm W k q (by rw [HVL.out]; unfold maxLen; omega))
      have HLO := Lib.hid (fun (W : World) (k : IRow W Ap l) (q : Row .i64 W W.heap.size vA v) => loads_any l Ap cp i 12 12 v vA i vc HLL.out.symm HVL.out.symm W k q (by rw [HVL.out]; unfold maxLen; omega))
      have HPU := Lib.hid (fun (W : World) (k : IRow W Ap l) (q : Row .i64 W W.heap.size vA v) => pushes_any l Ap cp i 12 12 v vA i vc HLL.out.symm HVL.out.symm W k q (by rw [HVL.out]; unfold maxLen; omega))
      have HRW := Lib.hid (fun (W : World) (g : GSt w W bp pb Ap cp l vA vc v) => show Row .i64 W W.heap.size vA v by obtain ⟨A', c', ev, R, _⟩ := g.t.wan.slice; obtain rfl : vA = A' := (by injection ev); exact R)
      obtain ⟨j0, j1, jl⟩ := G.out.t.box
      obtain ⟨p0, p1, -, pl⟩ := G.out.p
      rw [HLL.out] at j0
      rw [HVL.out] at p1
      go_wp2_with fail
      refine (HRU.out wr G.out.t.its.irow (HRW.out _ G.out)).mono ?_
      rintro e w6 hc
      obtain ⟨-, S', gr, hSS, -, rfl, hC⟩ := hc.resolve_left (fun h => h.1 HV0.out)
      obtain rfl : 12 = S' := by omega
      rw [HTT.out, HMM.out]
      have BX := (Below.refl w6.heap.size w6).alloc (Nat.le_refl _) (.cells #[.slice (some ⟨gr, 0, none⟩) 1 1, .int .i64 (13 * (i : Int))] 32)
      have G7 := Lib.hid ((G.out.below hC.bel).below BX)
      have hpp := hC.pp.below BX
      obtain ⟨ls, hls⟩ : ∃ ls, ls = mT 12 l.length (tnT l) (cdN v) (rdN l) (tnN l) (12 + 1) := ⟨_, rfl⟩
      rw [← hls] at hpp HMT HML
      have HPP := Lib.hid hpp
      have HS1 := Lib.hid (show (w6.alloc (.cells #[.slice (some ⟨gr, 0, none⟩) 1 1, .int .i64 (13 * (i : Int))] 32)).cell? ⟨w6.heap.size, 0, none⟩ = some (.slice (some ⟨gr, 0, none⟩) 1 1) from by rw [cell_new]; rfl)
      have HS2 := Lib.hid (show (w6.alloc (.cells #[.slice (some ⟨gr, 0, none⟩) 1 1, .int .i64 (13 * (i : Int))] 32)).cell? ⟨w6.heap.size, 1, none⟩ = some (.int .i64 (13 * (i : Int))) from by rw [cell_new]; rfl)
      have HSL := Lib.hid (show w6.heap.size < (w6.alloc (.cells #[.slice (some ⟨gr, 0, none⟩) 1 1, .int .i64 (13 * (i : Int))] 32)).heap.size by simp)
      clear hc hSS hC BX j0 j1 jl p0 p1 pl hpp hls G HRU
      go_upto_region 10 with fail
      obtain ⟨sb, hsb⟩ : ∃ x, x = w6.heap.size := ⟨_, rfl⟩
      rw [← hsb] at HS1 HS2 HSL ⊢
      generalize w6.alloc (.cells #[.slice (some ⟨gr, 0, none⟩) 1 1, .int .i64 (13 * (i : Int))] 32) = w7 at *
      clear hsb
      obtain ⟨j0, j1, jl⟩ := G7.out.t.box
      obtain ⟨p0, p1, -, pl⟩ := G7.out.p
      rw [HLL.out] at j0
      rw [HVL.out] at p1
      go_wp2_with fail
      refine (HLO.out w7 G7.out.t.its.irow (HRW.out _ G7.out)).mono ?_
      rintro e w8 ⟨u, rfl, OU, B8⟩
      rw [HV0.out]
      rw [HLD.out] at OU
      obtain ⟨uA, uc, ev, UR, huc, -⟩ := OU.slice
      rw [toZ_len, List.length_replicate] at ev huc
      subst ev
      have HU := Lib.hid UR
      have G8 := Lib.hid (G7.out.below B8)
      have HS1 := Lib.hid ((B8.cell (p := ⟨sb, 0, none⟩) HSL.out).trans HS1.out)
      have HS2 := Lib.hid ((B8.cell (p := ⟨sb, 1, none⟩) HSL.out).trans HS2.out)
      have HSL := Lib.hid (Nat.lt_of_lt_of_le HSL.out B8.size)
      have HPP := Lib.hid (HPP.out.below B8)
      clear j0 j1 jl p0 p1 pl OU UR B8 G7 HLO
      obtain ⟨j0, j1, jl⟩ := G8.out.t.box
      obtain ⟨p0, p1, -, pl⟩ := G8.out.p
      rw [HLL.out] at j0
      rw [HVL.out] at p1
      go_wp2_with fail
      refine (HPU.out w8 G8.out.t.its.irow (HRW.out _ G8.out)).mono ?_
      rintro e w9 ⟨rfl, B9⟩
      rw [HMP.out]
      have HU := Lib.hid (HU.out.below B9)
      have HB9 := Lib.hid (show Below w.heap.size w w9 by rw [← HBP.out]; exact (G8.out.below B9).t.bel)
      have s0 := (B9.cell (p := ⟨sb, 0, none⟩) HSL.out).trans HS1.out
      have s1 := (B9.cell (p := ⟨sb, 1, none⟩) HSL.out).trans HS2.out
      obtain ⟨ad, ead, a, ca, c1, R1⟩ := pp_natA (HPP.out.below B9) (k := 0) (by rw [HML.out]; decide)
      have had : ad = ⟨gr, 0, none⟩ := by injection ead with e; exact e.symm
      subst had
      rw [add_own, HMT.out, List.length_range] at c1
      rw [HMT.out] at R1
      have HR := Lib.hid R1
      have hne1 : ((13 * (i : Int)) != 13 * (i : Int)) = false := by simp
      have hne2 : ((i : Int) != (i : Int)) = false := by simp
      clear j0 j1 jl p0 p1 pl B9 HPU HRW HS1 HS2 HPP ead R1 G8
      go_wp2_with fail
      clear s0 s1 c1 hne1 hne2
      go_loopw [109] (fun iv wr => ∃ x : Nat, x ≤ i ∧ iv = .int .i64 (x : Int) ∧ Hid (wr = w9)) (fun iv _ => i - (intOf iv).toNat)
      case atStart => exact ⟨0, by omega, rfl, Lib.hid rfl⟩
      case round =>
        obtain ⟨x, hx, rfl, HW⟩ := hrel
        obtain rfl := HW.out
        by_cases hlx : x < i
        · obtain ⟨qad, rfl, qlt, cv⟩ := HR.out x (by rw [toZ_len, List.length_range]; exact hlx)
          rw [toZ_at _ (by rw [List.length_range]; exact hlx), show (List.range i).getD x 0 = x by simp [List.getD_eq_getElem?_getD, hlx]] at cv
          have hlx' : (x : Int) < (i : Int) := by omega
          have hb : ((x : Int) != (x : Int)) = false := by simp
          go_wp2_with fail
          go_roundw
          case rel => exact ⟨x + 1, by omega, by go_num, by first | exact Lib.hid rfl | exact Lib.hid trivial⟩
          case measure => simp [intOf]; omega
        · obtain rfl : x = i := by omega
          clear hlx HR
          go_wp2_with fail
          go_loopw [120] (fun iv wi => ∃ y : Nat, y ≤ 13 ∧ iv = .int .i64 (y : Int) ∧ Hid (wi = wr)) (fun iv _ => 13 - (intOf iv).toNat)
          case atStart => exact ⟨0, by omega, rfl, Lib.hid rfl⟩
          case round =>
            obtain ⟨y, hy, rfl, HW2⟩ := hrel
            obtain rfl := HW2.out
            by_cases hly : y < 13
            · obtain ⟨qad, rfl, qlt, cv⟩ := HU.out y (by rw [toZ_len, List.length_replicate]; exact hly)
              rw [toZ_at _ (by rw [List.length_replicate]; exact hly), show (List.replicate 13 (400 * x)).getD y 0 = 400 * x by rw [List.getD_eq_getElem?_getD, List.getElem?_replicate, if_pos hly]; rfl, show ((400 * x : Nat) : Int) = (x : Int) * 400 by omega] at cv
              have hly' : (y : Int) < 13 := by omega
              have hb : (((x : Int) * 400) != (x : Int) * 400) = false := by simp
              go_wp2_with fail
              go_roundw
              case rel => exact ⟨y + 1, by omega, by go_num, by first | exact Lib.hid rfl | exact Lib.hid trivial⟩
              case measure => simp [intOf]; omega
            · obtain rfl : y = 13 := by omega
              go_wp2_with fail
              refine (sane14_any _).mono ?_
              rintro e wz ⟨rfl, BZ⟩
              have HZ := Lib.hid (HB9.out.trans (BZ.mono HB9.out.size))
              clear BZ
              go_wp2_with fail
              go_ret
              exact ⟨rfl, HZ.out⟩
end Go.Proofs.Ytkopbnppjhdbgaa
