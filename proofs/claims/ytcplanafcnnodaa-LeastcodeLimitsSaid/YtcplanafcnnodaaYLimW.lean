/-
  Stage 13: the walk of LeastcodeLimits.
-/
import Derived.Test.YtcplanafcnnodaaYLimP
import Derived.Test.YtcplanafcnnodaaJGrow
set_option linter.unusedSimpArgs false
set_option linter.unusedVariables false
namespace Go.Proofs.Ytcplanafcnnodaa
open Go.RowKit Go.Lib

set_option maxRecDepth 100000 in
set_option maxHeartbeats 3200000 in
theorem lim_walk (n bl : Int) (w : World) (hn1 : -9223372036854775808 ≤ n) (hn2 : n ≤ 9223372036854775807) (hb1 : -9223372036854775808 ≤ bl) (hb2 : bl ≤ 9223372036854775807) :
    Calls Try.prog 3 #[.int .i64 n, .int .i64 bl] w fun e w' => e = .returned (.bool true) ∧ Below w.heap.size w w' := by
  obtain ⟨i0, hi, hz0, hz1, hz2⟩ := info_parts infoIt
  have a1 := tmod_bd n 32 (by decide)
  have a3 := tmod_bd bl 4 (by decide)
  have c1 := Int.emod_nonneg (n.tmod 32 + 32) (show (32 : Int) ≠ 0 by decide)
  have c2 := Int.emod_lt_of_pos (n.tmod 32 + 32) (show (0 : Int) < 32 by decide)
  have c3 := Int.emod_nonneg (bl.tmod 4 + 4) (show (4 : Int) ≠ 0 by decide)
  have c4 := Int.emod_lt_of_pos (bl.tmod 4 + 4) (show (0 : Int) < 4 by decide)
  have hz5 : (n.tmod 32 + 32).tmod 32 = (n.tmod 32 + 32) % 32 := by rw [Int.tmod_eq_emod_of_nonneg (by omega)]
  have hz6 : (bl.tmod 4 + 4).tmod 4 = (bl.tmod 4 + 4) % 4 := by rw [Int.tmod_eq_emod_of_nonneg (by omega)]
  obtain ⟨M, hM⟩ := Int.eq_ofNat_of_zero_le c1
  obtain ⟨wt, hwt⟩ : ∃ x, x = bl.tmod 4 % 4 := ⟨_, rfl⟩
  have hM1 : M < 32 := by omega
  have hwb : 0 ≤ wt ∧ wt ≤ 3 := by omega
  go_enter Try.func3, Try.ntmps3
  go_upto_region 2 with fail
  rw [← hwt]
  obtain ⟨N, hNM⟩ : ∃ N, N = M + 1 := ⟨_, rfl⟩
  have hN' : (1 : Int) + (M : Int) = (N : Int) := by omega
  rw [hN']
  clear hN' hM hwt c1 c2 c3 c4 hz5 hz6
  generalize n.tmod 32 = tn at *
  generalize bl.tmod 4 = tb at *
  clear a1 a3
  generalize tn + 32 = d1
  generalize tb + 4 = d2
  have hN1 : 1 ≤ N ∧ N ≤ 32 := by omega
  have T0 := Lib.hid (show TSt w (w.alloc (.cells #[.slice none 0 0, .int .i64 wt] 24)) w.heap.size (w.heap.size + 1) none 0 wt [] (.slice none 0 0) [] from
    ⟨JBox.new _ rfl, fun j => frozen_new _ _ _ _ _ rfl, IOwn.nil, Own.nil, (fun g hg => absurd hg (by simp [Value.ownBlock])), (Below.refl _ _).alloc (Nat.le_refl _) _, Nat.lt_succ_self _, by simp⟩)
  obtain ⟨bp, hbp⟩ : ∃ x, x = w.heap.size := ⟨_, rfl⟩
  have hsub : (N : Int) - 1 = (M : Int) := by omega
  clear hNM
  go_upto_region 3 with fail
  rw [← hbp] at T0 ⊢
  generalize w.alloc (.cells #[.slice none 0 0, .int .i64 wt] 24) = w1 at *
  have HT0 := Lib.hid (show TSt w w1 bp (bp + 1) none 0 wt (revL N 0) (.slice none 0 0) [] from T0.out)
  have HBP := Lib.hid hbp
  clear T0 hbp
  go_wp2_with fail
  go_loopw [6] (fun iv wr => ∃ (i : Nat) (Ap : Option Addr) (cp : Nat), i ≤ N ∧ iv = .int .i64 ((M : Int) - (i : Int)) ∧ Hid (TSt w wr bp (bp + 1) Ap cp wt (revL N i) (.slice none 0 0) [])) (fun iv _ => (intOf iv + 1).toNat)
  case atStart => exact ⟨0, none, 0, by omega, by simp, HT0⟩
  case round =>
    clear HT0
    obtain ⟨i, Ap, cp, hi', rfl, T⟩ := hrel
    by_cases hlt : i < N
    · obtain ⟨j0, j1, jl⟩ := T.out.box
      have HLL := Lib.hid (revL_len N i)
      obtain ⟨bv, hbv⟩ : ∃ m, m = (M : Int) - (i : Int) := ⟨_, rfl⟩
      have HBV := Lib.hid hbv
      have hb0 : 0 ≤ bv := by omega
      have HSI := Lib.hid (show revL N (i + 1) = revL N i ++ [(0, bv, 0, 100)] by rw [revL_succ, hbv, ← hsub])
      rw [HLL.out] at j0
      obtain ⟨ps, hps⟩ : ∃ ps, ps = revL N i := ⟨_, rfl⟩
      rw [← hps] at T HLL HSI
      have HPL := Lib.hid (show i = ps.length from HLL.out.symm)
      rw [← hbv]
      have hbd : bv ≤ 32 := by omega
      clear hps hbv
      go_wp2_with (first
        | (at_builtin; refine wpList_append_lies _ rfl (.tmp 31) (.tmp 34) 22 rfl (bp + 1) 26 i0 (.agg #[.int .i64 0, .int .i64 0, .int .i64 0, .int .i64 0]) 4 32 Try.underlying22 hi hz0 hz1 hz2 rfl (by decide) _ i ((flatI ps).map (Value.int .i64)) rfl (show World.ownsRow _ (bp + 1) 26 4 (.slice Ap i cp) i ((flatI ps).map (Value.int .i64)) from by have := T.out.its; unfold IOwn Flat at this; rw [← HPL.out] at this; exact World.ownsRow.alloc this _) ⟨wr.heap.size, 0, none⟩ 1 1 ((flatI [(0, bv, 0, 100)]).map (Value.int .i64)) rfl rfl (news_int (W := wr) (ys := flatI [(0, bv, 0, 100)])) (one_cells (ys := flatI [(0, bv, 0, 100)])) (by decide) (by unfold maxLen; omega) (by omega) (by have := T.out.le; simp only [World.size_alloc]; omega) _ rfl ?_; intro g7 cap w8 hown hgr hat hlt2; rw [HPL.out] at hown hgr hat; have AP := IOwn.app (l := ps) (m := [(0, bv, 0, 100)]) hown rfl rfl; have hT2 := (T.out.below ((Below.refl _ _).alloc (Nat.le_refl _) (.cells #[.int .i64 0, .int .i64 bv, .int .i64 0, .int .i64 100] 26))).app (p := (0, bv, 0, 100)) (by rw [List.length_append]; exact AP) hgr hat; obtain ⟨T2, ⟨u, hu⟩, hfu⟩ := hT2; simp only [List.length_append, List.length_cons, List.length_nil, Nat.zero_add] at T2; rw [← HPL.out] at T2; have HT2 := Lib.hid T2; clear hown hgr hat hlt2 AP T2))
      go_roundw
      case rel => exact ⟨i + 1, some ⟨g7, 0, none⟩, cap, by omega, by have := HBV.out; congr 1; omega, by rw [HSI.out]; exact HT2⟩
      case measure => have := HBV.out; simp [intOf]; omega
    · obtain rfl : i = N := by omega
      have HLL := Lib.hid (revL_len i i)
      have hla := least_any (revL i i) Ap cp i wt (revL_len i i).symm wr T.out.its.irow
      have hwi := fun W k => witness_any (revL i i) Ap cp i wt (revL_len i i).symm W k
      have HRV := Lib.hid (fun st v er h => rev_least (n := i) (wt := wt) (st := st) (v := v) (er := er) hN1 (by omega) h)
      have HVV := Lib.hid (rev_valid (n := i) hN1.2 (wt := wt) (by omega))
      have HCT := Lib.hid (fun W => count_code 12 0 wt W)
      have HCZ := Lib.hid (show countZ 12 0 wt = okN (cnt 0 wt.toNat 4096) by
        obtain ⟨V, rfl⟩ := Int.eq_ofNat_of_zero_le hwb.1
        exact count_at (R := 0) (by decide) (by omega))
      obtain ⟨ps, hps⟩ : ∃ ps, ps = revL i i := ⟨_, rfl⟩
      simp only [← hps] at T HLL hla hwi HRV HVV
      have HLA := Lib.hid hla
      have HWI := Lib.hid hwi
      obtain ⟨j0, j1, jl⟩ := T.out.box
      rw [HLL.out] at j0
      have hiM : ¬ (0 : Int) ≤ (M : Int) - (i : Int) := by omega
      clear hps hla hwi hlt
      go_wp2_with fail
      refine HLA.out.mono ?_
      rintro e w2 ⟨st, pA, pn, pc, er, v, rfl, O, B2, hr⟩
      have HR := Lib.hid (HRV.out st v er hr)
      obtain ⟨g1, hg1⟩ : ∃ g, g = w2.heap.size := ⟨_, rfl⟩
      have BX := (Below.refl w2.heap.size w2).alloc (Nat.le_refl _) (.cells #[.int .i64 st, .slice pA pn pc] 29)
      have P1 := Lib.hid (PBox.new (w := w2) (st := st) (A := pA) (n := pn) (c := pc) g1 hg1)
      obtain ⟨pA', pc', ev, LR, -, -, -⟩ := O.slice
      obtain rfl : pA = pA' := by injection ev
      have HPN := Lib.hid (show pn = v.length by injection ev)
      have HRow := Lib.hid (LR.below BX)
      have T2 := Lib.hid ((T.out.below B2).below BX)
      clear j0 j1 jl T O B2 hr BX ev LR HRV HLA pc'
      go_upto_region 8 with fail
      rw [← hg1]
      generalize w2.alloc (.cells #[.int .i64 st, .slice pA pn pc] 29) = w3 at *
      clear hg1
      go_wp2_with fail
      refine (HCT.out _).mono ?_
      rintro e w4 ⟨rfl, rfl⟩
      rw [HCZ.out]
      obtain ⟨cn, hcn⟩ : ∃ c, c = cnt 0 wt.toNat 4096 := ⟨_, rfl⟩
      rw [← hcn] at HR ⊢
      have HB := Lib.hid (show Below w.heap.size w w3 by rw [← HBP.out]; exact T2.out.bel)
      obtain ⟨j0, j1, jl⟩ := T2.out.box
      rw [HLL.out] at j0
      clear hcn
      rcases HR.out with ⟨hc, rfl, hno⟩ | ⟨hc, rfl, hvl, hv0, hst⟩
      · have hc' : (cn : Int) < (i : Int) := by omega
        have HNO := Lib.hid hno
        clear hno HR
        go_wp2_with fail
        refine (HWI.out w3 T2.out.its.irow).mono ?_
        rintro e w5 ⟨u, er, zs, rfl, O, B5, hw⟩
        have her : er = 15 := by
          rcases hw.valid HVV.out with ⟨h1, _⟩ | ⟨_, b', v', h', _⟩
          · exact h1
          · exact absurd h' (HNO.out _ _)
        subst her
        have HB5 := Lib.hid (HB.out.trans (B5.mono HB.out.size))
        clear O B5 hw
        go_wp2_with fail
        refine (sane13_any w5).mono ?_
        rintro e wz ⟨rfl, BZ⟩
        have HZ := Lib.hid (HB5.out.trans (BZ.mono HB5.out.size))
        clear BZ
        go_wp2_with fail
        go_ret
        exact ⟨rfl, HZ.out⟩
      · have hc' : ¬ (cn : Int) < (i : Int) := by omega
        obtain ⟨pad, rfl, _, cM⟩ := HRow.out M (by rw [hvl]; omega)
        rw [show i - 1 = M by omega] at hv0
        rw [hv0] at cM
        have hpn : pn = i := by rw [HPN.out, hvl]
        subst hpn
        have hii : ((pn : Int) == (pn : Int)) = true := by simp
        have hMi : (M : Int) < (pn : Int) := by omega
        obtain ⟨p0, p1, pf, pl⟩ := P1.out
        have HS := Lib.hid (sane13_any w3)
        by_cases hw1 : wt = 1
        · have hst' : st = (M : Int) := by rw [hst hw1]; exact hsub
          subst hw1
          subst hst'
          clear hst HR pf hvl hv0 hwb
          go_wp2_with fail
          refine HS.out.mono ?_
          rintro e wz ⟨rfl, BZ⟩
          have HZ := Lib.hid (HB.out.trans (BZ.mono HB.out.size))
          clear BZ
          go_wp2_with fail
          go_ret
          exact ⟨rfl, HZ.out⟩
        · have hne : (wt != 1) = true := bne_iff_ne.2 hw1
          clear hst HR pf hvl hv0 hw1 hwb
          go_wp2_with fail
          refine HS.out.mono ?_
          rintro e wz ⟨rfl, BZ⟩
          have HZ := Lib.hid (HB.out.trans (BZ.mono HB.out.size))
          clear BZ
          go_wp2_with fail
          go_ret
          exact ⟨rfl, HZ.out⟩
theorem lim_law (n bl : Int) (w : World) (hn1 : -9223372036854775808 ≤ n) (hn2 : n ≤ 9223372036854775807) (hb1 : -9223372036854775808 ≤ bl) (hb2 : bl ≤ 9223372036854775807) :
    Calls Try.prog 3 #[.int .i64 n, .int .i64 bl] w fun e w' => e = .returned (.bool true) ∧ Below w.heap.size w w' := lim_walk n bl w hn1 hn2 hb1 hb2
end Go.Proofs.Ytcplanafcnnodaa
