/-
  Stage 4: the walk of DetectorLoss.
-/
import Derived.Test.YtbpgbdnfoofnaaaDoorDLossW
set_option linter.unusedSimpArgs false
set_option linter.unusedVariables false
namespace Go.Proofs.YtbpgbdnfoofnaaaDoor
open Go.RowKit

theorem res_nat (v : Int) (d : Nat) (hd : 0 < d) : ∃ n : Nat, n < d ∧ (v.tmod d + d) % d = (n : Int) ∧ v.tmod d % d = (n : Int) := by
  have h1 := Int.emod_nonneg (v.tmod d) (b := (d : Int)) (by omega)
  have h2 := Int.emod_lt_of_pos (v.tmod d) (b := (d : Int)) (by omega)
  exact ⟨(v.tmod d % d).toNat, by omega, by rw [Int.add_emod_right]; omega, by omega⟩
theorem Own.rowAt {k : IntKind} {e : TypeId} {w : World} {base g n c : Nat} {xs : List Int} (h : Own k e w base (.slice (some ⟨g, 0, none⟩) n c) xs) : RowB k w (some ⟨g, 0, none⟩) xs := by
  obtain ⟨A5, c5, e5, R5⟩ := Own.rowB h
  have ea : A5 = some ⟨g, 0, none⟩ := by injection e5 with h1 h2 h3; exact h1.symm
  rw [← ea]; exact R5

set_option maxRecDepth 100000 in
set_option maxHeartbeats 3200000 in
theorem loss_walk (l : List Int) (A : Option Addr) (c : Nat) (at_ p0 q0 : Int) (w : World) (R : RowB .i64 w A l) (hw : ∀ n ∈ l, (Lit.int .i64 n).wf = true) (D : Dat w) :
    Calls Tryd.prog 6 #[.slice A l.length c, .int .i64 at_, .int .i64 p0, .int .i64 q0] w fun e w' => e = .returned (.bool true) ∧ Below w.heap.size w w' := by
  obtain ⟨j0, hj, hy0, hy1, hy2⟩ := info_parts infoPul
  have K0 := Lib.hid (mk_row (c := c) (T := 56) R hw)
  have HD := Lib.hid D
  clear R hw D
  go_enter Tryd.func6, Tryd.ntmps6
  go_wp2_with fail
  refine (new_any A l.length c w).mono ?_
  rintro e w1 ⟨rfl, e1⟩
  have B1 : Below w.heap.size w w1 := by rw [e1]; exact (Below.refl _ _).alloc (Nat.le_refl _) _
  have K1 := Lib.hid (show IsMk w1 w.heap.size 0 by rw [e1]; exact K0.out)
  have HB1 := Lib.hid B1
  clear e1 B1 K0
  go_wp2_with fail
  refine (mpulses_any w.heap.size 0 30 w1 K1.out (by decide) (by decide)).mono ?_
  rintro e w2 ⟨v2, ps, rfl, O2, hps, hrun, K2, M2⟩
  have HB2 := Lib.hid (M2.below HB1.out (Nat.le_refl _) HB1.out.size)
  obtain ⟨A2, c2, rfl, R2, h1, h2, h3⟩ := O2.full
  have hvl := (values_len ps.length ps (Nat.le_refl _)).1
  have HE := Lib.hid (enc_run hrun (by omega))
  have hok := values_okV _ ps (Nat.le_refl _) 0 hrun
  have HOK := Lib.hid hok
  have HG0 := Lib.hid (Good.start hok)
  have HRUN := Lib.hid hrun
  have HALL := Lib.hid (run_all hrun)
  obtain ⟨L, hL⟩ : ∃ L, L = valuesR ps := ⟨_, rfl⟩
  have HLV := Lib.hid hL
  rw [← hL] at HE hvl HOK HG0
  obtain ⟨xs0, hx0⟩ : ∃ xs, xs = L.flatMap two := ⟨_, rfl⟩
  rw [← hx0] at HE HG0
  have HR2 := Lib.hid R2
  have H1 := Lib.hid h1
  have H2 := Lib.hid h2
  have H3 := Lib.hid h3
  have HPS := Lib.hid hps
  obtain ⟨n, hn⟩ : ∃ n, n = L.length := ⟨_, rfl⟩
  have HN := Lib.hid hn
  rw [← hn] at hvl
  have n180 : n ≤ 180 := by omega
  clear hx0 hL hn R2 O2 M2 K2 hrun h1 h2 h3 hok hvl
  go_wp2_with fail
  refine (enc_at HE.out A2 c2 _ rfl w2 HR2.out H1.out H2.out (HD.out.below' HB2.out)).mono ?_
  rintro e w3 ⟨v3, rfl, O3, B3⟩
  have HB3 := Lib.hid B3
  have HO3 := Lib.hid O3
  have BW3 := Lib.hid (HB2.out.trans (B3.mono HB2.out.size))
  clear O3 B3
  go_wp2_with fail
  refine (vals_any ps A2 c2 w3 (HR2.out.below HB3.out) HALL.out (by have := HPS.out; omega)).mono ?_
  rintro e w4 ⟨v4, rfl, O4, B4⟩
  rw [← HLV.out] at O4
  obtain ⟨A3, c3, rfl, _, _, _, hform⟩ := HO3.out.slice
  obtain ⟨A4, c4, rfl, _, _, _, hform4⟩ := O4.slice
  have O3' := HO3.out.below B4
  have hlen : xs0.length = 2 * n := by rw [HG0.out.len, ← HN.out]
  obtain ⟨N, hN⟩ : ∃ N, N = xs0.length := ⟨_, rfl⟩
  rw [← hN] at O3' hlen ⊢
  rw [← HN.out] at O4 ⊢
  have HO3' := Lib.hid O3'
  have HO4 := Lib.hid O4
  have HB4 := Lib.hid (HB3.out.trans (B4.mono HB3.out.size))
  have BW4 := Lib.hid (BW3.out.trans (B4.mono BW3.out.size))
  have HF := Lib.hid hform
  have HF4 := Lib.hid hform4
  have HNN := Lib.hid hN
  have HL0 := Lib.hid hlen
  have SZ3 := Lib.hid (show w2.heap.size ≤ w3.heap.size from HB3.out.size)
  have hne : ((N : Int) != 2 * (n : Int)) = false := by rw [bne_eq_false_iff_eq]; omega
  clear O3' hlen hN O4 B4 hform hform4 HO3
  by_cases hn0 : n = 0
  · have he : ((n : Int) == 0) = true := by rw [beq_iff_eq]; omega
    clear hn0
    go_wp2_with fail
    refine (sane_any _ (HD.out.below' BW4.out)).mono ?_
    rintro e w' ⟨rfl, B5⟩
    have HB5 := Lib.hid (BW4.out.trans (B5.mono BW4.out.size))
    clear B5
    go_wp2_with fail
    go_ret
    exact ⟨rfl, HB5.out⟩
  · have he : ((n : Int) == 0) = false := by rw [beq_eq_false_iff_ne]; omega
    obtain ⟨g, rfl, hg1, hg2⟩ := HF.out (by rw [← HNN.out, HL0.out]; omega)
    obtain ⟨g4, rfl, hh1, hh2⟩ := HF4.out (by rw [← HN.out]; omega)
    obtain ⟨k, lk, hk1, hk2⟩ := res_nat at_ n (by omega)
    obtain ⟨p, lp, hp1, hp2⟩ := res_nat p0 16 (by omega)
    obtain ⟨q, lq, hq1, hq2⟩ := res_nat q0 15 (by omega)
    have tp := tmod_bd p0 16 (by decide)
    have tq := tmod_bd q0 15 (by decide)
    have ta := tmod_bd at_ n (by omega)
    have hp1' : (p0.tmod 16 + 16) % 16 = (p : Int) := hp1
    have hp2' : p0.tmod 16 % 16 = (p : Int) := hp2
    have hq1' : (q0.tmod 15 + 15) % 15 = (q : Int) := hq1
    have hq2' : q0.tmod 15 % 15 = (q : Int) := hq2
    clear hp1 hp2 hq1 hq2
    obtain ⟨r, lr, hpr, hr⟩ : ∃ r : Nat, r < 16 ∧ p ≠ r ∧ ((p0.tmod 16 % 16 ≤ q0.tmod 15 % 15 ∧ (q : Int) + 1 = (r : Int)) ∨ (¬ p0.tmod 16 % 16 ≤ q0.tmod 15 % 15 ∧ (q : Int) = (r : Int))) := by
      rw [hp2', hq2']
      by_cases h : p ≤ q
      · exact ⟨q + 1, by omega, by omega, Or.inl ⟨by omega, by omega⟩⟩
      · exact ⟨q, by omega, by omega, Or.inr ⟨by omega, rfl⟩⟩
    have hkL : k < L.length := by rw [← HN.out]; exact lk
    have HU := Lib.hid (lost_unpack HG0.out HOK.out hkL lp lr hpr (by rw [← HN.out]; omega))
    have HKL := Lib.hid hkL
    have K1' := Lib.hid hk1
    have K2' := Lib.hid hk2
    have P1 := Lib.hid hp1'
    have P2 := Lib.hid hp2'
    have Q1 := Lib.hid hq1'
    have Q2 := Lib.hid hq2'
    clear hk1 hk2 hp1' hp2' hq1' hq2' hkL hpr
    have zn : ((n : Int) == 0) = false := he
    rcases hr with ⟨hc, hr⟩ | ⟨hc, hr⟩
    all_goals
      have HRQ := Lib.hid hr
      clear hr
      go_wp2_with fail
      simp only [K1'.out, K2'.out, P1.out, P2.out, Q1.out, Q2.out, HRQ.out]
      clear hc tp tq ta zn
      refine (flip_any xs0 g c3 N k p w2.heap.size _ HO3'.out HNN.out HG0.out.byt (by rw [HL0.out]; omega) lp hg1 (by rw [HL0.out]; omega)).mono ?_
      rintro e w5 ⟨rfl, O5, M5⟩
      have HO5 := Lib.hid O5
      have HB5 := Lib.hid (M5.below HB4.out hg1 HB4.out.size)
      have HV5 := Lib.hid (HO4.out.moves M5 hg2)
      clear O5 M5
      go_wp2_with fail
      refine (flip_any (flipX xs0 k p) g c3 N k r w2.heap.size _ HO5.out (by rw [flipX_len]; exact HNN.out) (flipX_byt HG0.out.byt k p (by rw [← HNN.out, HL0.out]; unfold plc; omega)) (by rw [HL0.out]; omega) lr hg1 (by rw [HL0.out]; omega)).mono ?_
      rintro e w6 ⟨rfl, O6, M6⟩
      have HX6 := Lib.hid O6.rowAt
      have HB6 := Lib.hid (M6.below HB5.out hg1 HB5.out.size)
      have HV6 := Lib.hid (HV5.out.moves M6 hg2).rowAt
      have BW6 := Lib.hid (HB2.out.trans ((M6.below HB5.out hg1 HB5.out.size).mono HB2.out.size))
      have HR6 := Lib.hid (HR2.out.below (M6.below HB5.out hg1 HB5.out.size))
      have GS := Lib.hid (Grp.start HRUN.out (fun e => by have := HLV.out; rw [e] at this; have h2 := HN.out; rw [this] at h2; simp [values_nil] at h2; omega))
      have hna := Lib.hid (show (valuesR ps).length = n by rw [← HLV.out]; exact HN.out.symm)
      clear O6 M6
      go_wp2_with fail
      go_loopw [13, 14] (fun fv sv wr => ∃ (F S : Nat) (l1 l2 : List Pul) (pre : List Int), fv = .int .i64 (F : Int) ∧ sv = .int .i64 (S : Int) ∧ F ≤ k ∧ Hid (Grp ps F l1 l2 pre ∧ S = l1.length) ∧ w6 = wr) (fun fv _ _ => n - (intOf fv).toNat)
      case atStart => exact ⟨0, 0, [], ps, [], rfl, rfl, by omega, Lib.hid ⟨GS.out, rfl⟩, rfl⟩
      case round =>
        clear GS
        obtain ⟨F, S, l1, l2, pre, rfl, rfl, hFk, G, rfl⟩ := hrel
        obtain ⟨ga, gl⟩ := G.out.1.at_
        rw [hna.out] at gl
        obtain ⟨ad, e', _, hcF⟩ := HV6.out.1 F (by rw [← HN.out]; exact gl)
        have ea : (⟨g4, 0, none⟩ : Addr) = ad := by injection e'
        subst ea
        rw [add_own, HLV.out, ga] at hcF
        have gb := glen_bd G.out.1.ne
        have gf := G.out.1.fin
        obtain ⟨m, hm⟩ : ∃ m, m = glen l2 := ⟨_, rfl⟩
        rw [← hm] at hcF gb gf
        have m1 : 1 ≤ m := gb.1
        have m8 : m ≤ 8 := gb.2.1
        have HM8 := Lib.hid (show m ≤ l2.length from gb.2.2)
        have HGF := Lib.hid gf
        have HM := Lib.hid hm
        have HGF2 := Lib.hid (G.out.1.fin.2.1)
        have hSl := Lib.hid (show S = l1.length from G.out.2)
        have hS30 : S + m ≤ 30 := by have := gf.2.2; have := HPS.out; have := hSl.out; omega
        have wm : 1536 + (m : Int) - 1536 = (m : Int) := by omega
        clear e' ga gb gf hm
        by_cases hgo : F + (4 + 2 * m) ≤ k
        · have hgi : (F : Int) + 4 + 2 * (m : Int) ≤ (k : Int) := by omega
          obtain ⟨pre', G'⟩ := G.out.1.step (k := k) (by rw [← HM.out]; exact hgo) (by rw [hna.out]; exact lk)
          rw [← HM.out] at G'
          have HG' := Lib.hid G'
          clear G'
          go_wp2_with fail
          go_roundw
          case rel => exact ⟨F + (4 + 2 * m), S + m, l1 ++ l2.take m, l2.drop m, pre', by go_num, by go_num, hgo, Lib.hid ⟨HG'.out, by rw [List.length_append, List.length_take, ← hSl.out]; have := HM8.out; omega⟩, trivial⟩
          case measure => simp [intOf]; omega
        · have hgi : ¬ (F : Int) + 4 + 2 * (m : Int) ≤ (k : Int) := by omega
          have hLO := G.out.1.lost (k := k) hFk (by rw [← HM.out]; omega)
          rw [← HM.out] at hLO
          have hDD := decD_ok (xs := flipX (flipX xs0 k p) k r) (l := l1 ++ l2.drop m) (g := [((F : Int), (F : Int) + 3 + 2 * (m : Int))]) HU.out.1 (by rw [HLV.out]; exact hLO) (by
            have h1 := congrArg List.length G.out.1.eps
            rw [List.length_append] at h1
            rw [List.length_append, List.length_drop]
            have := HPS.out
            omega)
          obtain ⟨WL, hWL⟩ : ∃ x, x = l1 ++ l2.drop m := ⟨_, rfl⟩
          rw [← hWL] at hDD
          have HWL := Lib.hid hWL
          have HDD := Lib.hid hDD
          clear hWL
          obtain ⟨g2, rfl, hg2a, hg2b⟩ := H3.out (by have := HGF.out.2.2; omega)
          obtain ⟨PL, hPL⟩ : ∃ x, x = ps.length := ⟨_, rfl⟩
          have HPL := Lib.hid hPL
          rw [← hPL]
          have hSP : S + m ≤ PL := by rw [hPL]; have := HGF.out.2.2; have := hSl.out; omega
          have hPc : PL ≤ c2 := by rw [hPL]; exact H1.out
          have hcm : c2 ≤ 9223372036854775807 := H2.out
          have NW1 := Lib.hid (show Row .i64 w6 w6.heap.size (some ⟨g2, 0, none⟩) (flatP l1) from by
            have := (HR6.out.row).take (S * 3)
            rw [flatP_take, hSl.out, HGF.out.1] at this
            exact this)
          have L1 := Lib.hid (show S = l1.length from hSl.out)
          have L2 := Lib.hid (show PL - (S + m) = (l2.drop m).length from by
            have h1 := congrArg List.length G.out.1.eps
            rw [List.length_append, ← HPL.out, ← hSl.out] at h1
            rw [List.length_drop]; omega)
          have NW2 := Lib.hid (show Row .i64 w6 w6.heap.size (some ⟨g2, (S + m) * 3, none⟩) (flatP (l2.drop m)) from by
            have := (HR6.out.row).dropR ((S + m) * 3)
            rw [flatP_drop, hSl.out, HM.out, HGF2.out, Option.map_some, add_own] at this
            rw [hSl.out, HM.out]
            exact this)
          have hP30 := Lib.hid (show PL ≤ 30 by rw [hPL]; exact HPS.out)
          have hp30 := hP30.out
          have fS1 : (S : Int) ≤ (c2 : Int) := by omega
          have fS2 : (S : Int) + (m : Int) ≤ (PL : Int) := by omega
          have fS3 : IntKind.i64.wrap ((S : Int) + (m : Int)) = (S : Int) + (m : Int) := IntWalk.i64_in _ (by omega)
          have fS4 : 0 ≤ (S : Int) + (m : Int) := by omega
          have fS5 : ((S : Int) + (m : Int)).toNat = S + m := by omega
          have fS6 : (PL : Int) ≤ (c2 : Int) := by omega
          have fS7 : (S : Int) ≤ (S : Int) + (m : Int) := by omega
          clear hLO hDD hPL
          by_cases hcap : c2 = S + m
          · have hdn : l2.drop m = [] := List.length_eq_zero_iff.1 (by rw [← L2.out]; omega)
            have NW3 := Lib.hid (show Row .i64 w6 w6.heap.size (some ⟨g2, 0, none⟩) (flatP (l2.drop m)) by rw [hdn]; exact Row.nil)
            have fS8 : (PL : Int) ≤ (S : Int) + (m : Int) := by omega
            clear hdn
            go_upto_region 18 with fail
            go_region_law (first
              | (refine step_app_src rfl (.tmp 107) (.tmp 110) 25 rfl w6.heap.size 28 j0 (.agg #[.int .i64 0, .int .i64 0, .int .i64 0]) 3 24 Tryd.underlying25 hj hy0 hy1 hy2 rfl (by decide) _ 0 [] rfl (own_empty (Nat.le_refl _)) (some ⟨g2, 0, none⟩) S _ ((flatP l1).map (Value.int .i64)) rfl (fun e => by cases e) (by rw [List.length_map, flatP_len, ← L1.out]) (Row.newsO (NW1.out.below ((Below.refl _ _).alloc (Nat.le_refl _) _).drew)) one_cells (by unfold maxLen; omega) (by omega) (by simp) ?_; intro v7 w7 hown hg; have S7 := Lib.hid (show Below w6.heap.size w6 w7 from (((Below.refl _ _).alloc (Nat.le_refl _) _).drew).grown hg (by simp) (fun g hg => Nat.le_of_eq (Option.some.inj (show some w6.heap.size = some g from hg)))); have W7 := Lib.hid hown; clear hown hg)
              | (refine step_app_src rfl (.tmp 111) (.tmp 116) 25 rfl w6.heap.size 28 j0 (.agg #[.int .i64 0, .int .i64 0, .int .i64 0]) 3 24 Tryd.underlying25 hj hy0 hy1 hy2 rfl (by decide) _ (0 + S) ([] ++ (flatP l1).map (Value.int .i64)) rfl W7.out (some ⟨g2, 0, none⟩) _ _ ((flatP (l2.drop m)).map (Value.int .i64)) rfl (fun e => by cases e) (by rw [List.length_map, flatP_len, ← L2.out]) (Row.newsO (NW3.out.below S7.out)) one_cells (by unfold maxLen; omega) (by omega) S7.out.size ?_; intro v8 w8 hown hg; have S8 := Lib.hid (show Below w6.heap.size w6 w8 from S7.out.grown hg S7.out.size (fun g hg => rows_block W7.out hg)); have W8 := Lib.hid hown; clear hown hg))
            have O8 : POwn w8 w6.heap.size v8 WL := by rw [HWL.out]; exact POwn.app (l := l1) (m := l2.drop m) (by have := W8.out; rw [Nat.zero_add, List.nil_append] at this; exact this) L1.out L2.out
            obtain ⟨A8, c8, rfl, Q8, _⟩ := O8.src
            have HB8 := Lib.hid (BW6.out.trans (S8.out.mono BW6.out.size))
            have X8 := Lib.hid Q8
            have X6 := Lib.hid (HX6.out.below S8.out)
            clear NW3 fS8 O8 Q8 W8 W7 S7 S8 NW1 NW2 L1 L2 hcF fS1 fS2 fS3 fS4 fS5 fS6 fS7
            go_wp2_with fail
            refine (dec_at HDD.out (some ⟨g, 0, none⟩) c3 N (by rw [flipX_len, flipX_len]; exact HNN.out) w8 X6.out HU.out.2 (HD.out.below' HB8.out)).mono ?_
            rintro e w9 ⟨A9, c9, A10, c10, rfl, Q9, Q10, B9⟩
            have HB9 := Lib.hid (HB8.out.trans (B9.mono HB8.out.size))
            have X9 := Lib.hid Q9
            have X10 := Lib.hid Q10
            have X8' := Lib.hid (X8.out.below B9)
            clear Q9 Q10 B9
            go_wp2_with fail
            refine (psame_at A9 A8 c9 c8 _ _ rfl rfl _ X9.out X8'.out).mono ?_
            rintro e w' ⟨rfl, n1, rfl⟩
            go_wp2_with fail
            have RI := ivrow_new (W := w9.drewN n1) (T := 52) [((F : Int), (F : Int) + 3 + 2 * (m : Int))] w9.heap.size rfl (by simp)
            have BI : Below (w9.drewN n1).heap.size (w9.drewN n1) ((w9.drewN n1).alloc (.cells ((flatI [((F : Int), (F : Int) + 3 + 2 * (m : Int))]).map (Value.int .i64)).toArray 52)) := (Below.refl _ _).alloc (Nat.le_refl _) _
            refine (isame_at A10 _ c10 1 _ _ rfl rfl _ ((X10.out.drewN n1).below BI) RI).mono ?_
            rintro e w' ⟨rfl, n2, rfl⟩
            have BF := Lib.hid (bdn (n := n2) ((bdn (n := n1) HB9.out).trans (BI.mono HB9.out.size)))
            clear RI BI
            go_wp2_with fail
            refine (sane_any _ (HD.out.below' BF.out)).mono ?_
            rintro e w' ⟨rfl, B12⟩
            have HB12 := Lib.hid (BF.out.trans (B12.mono BF.out.size))
            clear B12
            go_wp2_with fail
            go_ret
            exact ⟨rfl, HB12.out⟩
          · go_upto_region 18 with fail
            go_region_law (first
              | (refine step_app_src rfl (.tmp 107) (.tmp 110) 25 rfl w6.heap.size 28 j0 (.agg #[.int .i64 0, .int .i64 0, .int .i64 0]) 3 24 Tryd.underlying25 hj hy0 hy1 hy2 rfl (by decide) _ 0 [] rfl (own_empty (Nat.le_refl _)) (some ⟨g2, 0, none⟩) S _ ((flatP l1).map (Value.int .i64)) rfl (fun e => by cases e) (by rw [List.length_map, flatP_len, ← L1.out]) (Row.newsO (NW1.out.below ((Below.refl _ _).alloc (Nat.le_refl _) _).drew)) one_cells (by unfold maxLen; omega) (by omega) (by simp) ?_; intro v7 w7 hown hg; have S7 := Lib.hid (show Below w6.heap.size w6 w7 from (((Below.refl _ _).alloc (Nat.le_refl _) _).drew).grown hg (by simp) (fun g hg => Nat.le_of_eq (Option.some.inj (show some w6.heap.size = some g from hg)))); have W7 := Lib.hid hown; clear hown hg)
              | (refine step_app_src rfl (.tmp 111) (.tmp 116) 25 rfl w6.heap.size 28 j0 (.agg #[.int .i64 0, .int .i64 0, .int .i64 0]) 3 24 Tryd.underlying25 hj hy0 hy1 hy2 rfl (by decide) _ (0 + S) ([] ++ (flatP l1).map (Value.int .i64)) rfl W7.out (some ⟨g2, (S + m) * 3, none⟩) (PL - (S + m)) (c2 - (S + m)) ((flatP (l2.drop m)).map (Value.int .i64)) rfl (fun e => by cases e) (by rw [List.length_map, flatP_len, ← L2.out]) (Row.newsO (NW2.out.below S7.out)) one_cells (by unfold maxLen; omega) (by omega) S7.out.size ?_; intro v8 w8 hown hg; have S8 := Lib.hid (show Below w6.heap.size w6 w8 from S7.out.grown hg S7.out.size (fun g hg => rows_block W7.out hg)); have W8 := Lib.hid hown; clear hown hg))
            have O8 : POwn w8 w6.heap.size v8 WL := by rw [HWL.out]; exact POwn.app (l := l1) (m := l2.drop m) (by have := W8.out; rw [Nat.zero_add, List.nil_append] at this; exact this) L1.out L2.out
            obtain ⟨A8, c8, rfl, Q8, _⟩ := O8.src
            have HB8 := Lib.hid (BW6.out.trans (S8.out.mono BW6.out.size))
            have X8 := Lib.hid Q8
            have X6 := Lib.hid (HX6.out.below S8.out)
            clear O8 Q8 W8 W7 S7 S8 NW1 NW2 L1 L2 hcF fS1 fS2 fS3 fS4 fS5 fS6 fS7
            go_wp2_with fail
            refine (dec_at HDD.out (some ⟨g, 0, none⟩) c3 N (by rw [flipX_len, flipX_len]; exact HNN.out) w8 X6.out HU.out.2 (HD.out.below' HB8.out)).mono ?_
            rintro e w9 ⟨A9, c9, A10, c10, rfl, Q9, Q10, B9⟩
            have HB9 := Lib.hid (HB8.out.trans (B9.mono HB8.out.size))
            have X9 := Lib.hid Q9
            have X10 := Lib.hid Q10
            have X8' := Lib.hid (X8.out.below B9)
            clear Q9 Q10 B9
            go_wp2_with fail
            refine (psame_at A9 A8 c9 c8 _ _ rfl rfl _ X9.out X8'.out).mono ?_
            rintro e w' ⟨rfl, n1, rfl⟩
            go_wp2_with fail
            have RI := ivrow_new (W := w9.drewN n1) (T := 52) [((F : Int), (F : Int) + 3 + 2 * (m : Int))] w9.heap.size rfl (by simp)
            have BI : Below (w9.drewN n1).heap.size (w9.drewN n1) ((w9.drewN n1).alloc (.cells ((flatI [((F : Int), (F : Int) + 3 + 2 * (m : Int))]).map (Value.int .i64)).toArray 52)) := (Below.refl _ _).alloc (Nat.le_refl _) _
            refine (isame_at A10 _ c10 1 _ _ rfl rfl _ ((X10.out.drewN n1).below BI) RI).mono ?_
            rintro e w' ⟨rfl, n2, rfl⟩
            have BF := Lib.hid (bdn (n := n2) ((bdn (n := n1) HB9.out).trans (BI.mono HB9.out.size)))
            clear RI BI
            go_wp2_with fail
            refine (sane_any _ (HD.out.below' BF.out)).mono ?_
            rintro e w' ⟨rfl, B12⟩
            have HB12 := Lib.hid (BF.out.trans (B12.mono BF.out.size))
            clear B12
            go_wp2_with fail
            go_ret
            exact ⟨rfl, HB12.out⟩
end Go.Proofs.YtbpgbdnfoofnaaaDoor
