/-
  Stage 14: the walk of RollinMoves.
-/
import Derived.Test.YtkopbnppjhdbgaaZB
set_option linter.unusedSimpArgs false
set_option linter.unusedVariables false
namespace Go.Proofs.Ytkopbnppjhdbgaa
open Go.RowKit Go.Lib

set_option maxRecDepth 100000 in
set_option maxHeartbeats 6400000 in
theorem mov_walk (A : Option Addr) (c : Nat) (zs : List Int) (w : World) (hr : Row .i64 w w.heap.size A zs) (hm : zs.length ≤ maxLen) (hw : ∀ n ∈ zs, (Lit.int .i64 n).wf = true) :
    Calls Try.prog 8 #[.slice A zs.length c] w fun e w' => e = .returned (.bool true) ∧ Below w.heap.size w w' := by
  have K := Lib.hid (mk_row (c := c) (T := 73) hr hm hw)
  have B := Lib.hid ((Below.refl w.heap.size w).alloc (Nat.le_refl _) (.cells #[.slice A zs.length c, .int .i64 0] 73))
  clear hr hw
  go_enter Try.func8, Try.ntmps8
  go_wp2_with fail
  refine (new_any A zs.length c w).mono ?_
  rintro e w1 ⟨rfl, hw1⟩
  rw [← hw1] at K B
  clear hw1 hm
  go_wp2_with fail
  refine mjob_start w w1 14 (by omega) K.out B.out ?_
  intro jA jc l wt w2 hl hlt hS
  obtain ⟨b, hb⟩ : ∃ b, b = w2.heap.size := ⟨_, rfl⟩
  have S3 := Lib.hid (hS b hb)
  clear K B hS hlt
  go_upto_region 3 with fail
  rw [← hb]
  generalize w2.alloc (.cells #[.slice jA l.length jc, .int .i64 wt] 24) = w3 at *
  clear hb
  obtain ⟨L, hL⟩ : ∃ n, n = l.length := ⟨_, rfl⟩
  have HL := Lib.hid hL
  have HPN := Lib.hid (plan_any l jA jc L wt hL w.heap.size (5 + 5 * 14) (by omega) w3 S3.out.val (by have := S3.out.own; rw [← hL] at this; exact this) S3.out.mkr)
  have J := S3.out.box
  rw [← hL] at J hl ⊢
  obtain ⟨j0, j1, jl⟩ := J
  clear hL
  go_wp2_with fail
  refine HPN.out.mono ?_
  rintro e w4 ⟨S, pA, pc, v, rfl, PO, hpl, k4, v4⟩
  have HPL := Lib.hid hpl
  have S4 := Lib.hid (S3.out.step v4 k4)
  obtain ⟨g1, hg1⟩ : ∃ g, g = w4.heap.size := ⟨_, rfl⟩
  have P4 := Lib.hid (PSt.new (st := (S : Int)) (m := w.heap.size) PO (Nat.lt_trans S3.out.lt S3.out.box.lt) g1 hg1 (by rw [hg1]; have := S4.out.lt; have := S4.out.box.lt; omega))
  have BX := (Below.refl w4.heap.size w4).alloc (Nat.le_refl _) (.cells #[.int .i64 (S : Int), .slice pA v.length pc] 27)
  have S5 := Lib.hid (S4.out.below BX)
  have hvl := hpl.len
  rw [← HL.out] at hvl
  clear j0 j1 jl S3 S4 PO BX k4 v4 hpl HPN
  go_upto_region 4 with fail
  rw [← hg1]
  rw [hvl] at P4 S5
  generalize w4.alloc (.cells #[.int .i64 (S : Int), .slice pA L pc] 27) = w5 at *
  clear hg1
  have HVL := Lib.hid hvl
  have hS12 := HPL.out.s12
  have hL14 : L ≤ 14 := hl
  clear hvl hl
  have HRU := Lib.hid (fun (W : World) (k : IRow W jA l) (q : Row .i64 W W.heap.size pA v) => run_any l jA jc L wt (S : Int) v pA L pc HL.out HVL.out.symm W k q (by rw [HVL.out]; unfold maxLen; omega))
  have HLO := Lib.hid (fun (W : World) (k : IRow W jA l) (q : Row .i64 W W.heap.size pA v) => loads_any l jA jc L wt (S : Int) v pA L pc HL.out HVL.out.symm W k q (by rw [HVL.out]; unfold maxLen; omega))
  have HV0 := Lib.hid HPL.out.val14
  have J := S5.out.box
  rw [← HL.out] at J
  obtain ⟨j0, j1, jl⟩ := J
  obtain ⟨p0, p1, -, pl⟩ := P4.out.box
  go_wp2_with fail
  refine (HRU.out w5 S5.out.irow P4.out.row.1).mono ?_
  rintro e w6 hc
  obtain ⟨-, S', gr, hSS, -, rfl, hC⟩ := hc.resolve_left (fun h => h.1 HV0.out)
  obtain rfl : S = S' := by omega
  obtain ⟨T, hT⟩ : ∃ T, T = tnT l := ⟨_, rfl⟩
  have HTT := Lib.hid hT
  rw [← hT]
  obtain ⟨mv, hmv⟩ : ∃ x, x = mM S l.length (cdN v) (rdN l) (S + 1) := ⟨_, rfl⟩
  have HMV := Lib.hid (show mv = mvN (cdN v) (rdN l) L by rw [hmv, mM_mv HPL.out.fitN hS12, HL.out])
  rw [← hmv]
  have BX := (Below.refl w6.heap.size w6).alloc (Nat.le_refl _) (.cells #[.slice (some ⟨gr, 0, none⟩) T T, .int .i64 (mv : Int)] 32)
  have BB := hC.bel.trans (BX.mono hC.bel.size)
  have S6 := Lib.hid (S5.out.below BB)
  have P6 := Lib.hid (P4.out.below BB)
  have HS6 := Lib.hid (show (w6.alloc (.cells #[.slice (some ⟨gr, 0, none⟩) T T, .int .i64 (mv : Int)] 32)).cell? ⟨w6.heap.size, 1, none⟩ = some (.int .i64 (mv : Int)) from by rw [cell_new]; rfl)
  have HSL := Lib.hid (show w6.heap.size < (w6.alloc (.cells #[.slice (some ⟨gr, 0, none⟩) T T, .int .i64 (mv : Int)] 32)).heap.size by simp)
  clear hc hSS hC BX BB j0 j1 jl p0 p1 pl S5 P4 HRU hT hmv
  go_upto_region 5 with fail
  obtain ⟨sb, hsb⟩ : ∃ x, x = w6.heap.size := ⟨_, rfl⟩
  rw [← hsb] at HS6 HSL ⊢
  generalize w6.alloc (.cells #[.slice (some ⟨gr, 0, none⟩) T T, .int .i64 (mv : Int)] 32) = w7 at *
  clear hsb
  have J := S6.out.box
  rw [← HL.out] at J
  obtain ⟨j0, j1, jl⟩ := J
  obtain ⟨p0, p1, -, pl⟩ := P6.out.box
  go_wp2_with fail
  refine (HLO.out w7 S6.out.irow P6.out.row.1).mono ?_
  rintro e w8 ⟨u, rfl, OU, B8⟩
  rw [HV0.out]
  have hll : loadL l wt (S : Int) v = toZ (ldN S T (cdN v) (rdN l) (tnN l) (lnN l) L) := by unfold loadL; rw [if_pos HV0.out, ← HTT.out, HL.out]; rfl
  rw [hll] at OU
  obtain ⟨uA, uc, ev, UR, huc, -⟩ := OU.slice
  rw [toZ_len, ldN_len] at ev huc
  subst ev
  have HU := Lib.hid UR
  have S8 := Lib.hid (S6.out.below B8)
  have P8 := Lib.hid (P6.out.below B8)
  have HS8 := Lib.hid ((B8.cell (p := ⟨sb, 1, none⟩) HSL.out).trans HS6.out)
  have HSL8 := Lib.hid (Nat.lt_of_lt_of_le HSL.out B8.size)
  have hT16 : T ≤ 16 := by rw [HTT.out]; have := (tcI_bd (valid_ok HPL.out.val).2.1 l.length (Nat.le_refl _)).1; unfold tnT; omega
  clear j0 j1 jl p0 p1 pl OU UR B8 S6 P6 HLO HS6 HSL hll
  obtain ⟨p0, p1, -, pl⟩ := P8.out.box
  obtain ⟨cs, hcs⟩ : ∃ cs, cs = ((List.replicate S (0 : Int)).map (Value.int .i64)).toArray := ⟨_, rfl⟩
  have hmk : ∀ W, (Instr.makeSlice 25 (.int .i64 (S : Int)) (.int .i64 (S : Int))).run Try.prog W = .ok (.slice (some ⟨W.heap.size, 0, none⟩) S S) (W.alloc (.cells cs 3)) := fun W => by rw [hcs]; exact make_ints W S (by omega)
  have BX := (Below.refl w8.heap.size w8).alloc (Nat.le_refl _) (.cells cs 3)
  have HLD := Lib.hid (show LdS w8 (w8.alloc (.cells cs 3)) w8.heap.size S (ldM S (cdN v) (rdN l) (lnN l) 0) by
    refine ⟨?_, BX, by rw [ldM_len]⟩
    have := Own.laid (k := .i64) (T := 3) w8 w8.heap.size (Nat.le_refl _) (List.replicate S (0 : Int)) S (by simp) (by omega)
    show Own .i64 3 _ _ _ (toZ (List.replicate S 0))
    rw [← toZ_rep, hcs]
    exact this)
  clear BX hcs
  go_upto_region 8 with fail
  clear hmk p0 p1 pl
  obtain ⟨g, hg⟩ : ∃ g, g = w8.heap.size := ⟨_, rfl⟩
  rw [← hg] at HLD ⊢
  generalize w8.alloc (.cells cs 3) = w9 at *
  have HG8 := Lib.hid (show w8.heap.size ≤ g by omega)
  clear hg
  have P9 := Lib.hid (P8.out.below HLD.out.bel)
  obtain ⟨p0, p1, -, pl⟩ := P9.out.box
  go_wp2_with fail
  clear p0 p1 pl
  go_loopw [10, 43] (fun xv iv wr => ∃ k : Nat, k ≤ L ∧ iv = .int .i64 (k : Int) ∧ xv = .int .i64 ((mvN (cdN v) (rdN l) k : Nat) : Int) ∧ Hid (LdS w8 wr g S (ldM S (cdN v) (rdN l) (lnN l) k))) (fun _ iv _ => L - (intOf iv).toNat)
  case atStart => exact ⟨0, by omega, rfl, rfl, HLD⟩
  case round =>
    clear HLD P9
    obtain ⟨k, hk, rfl, rfl, LD⟩ := hrel
    have SR := Lib.hid (S8.out.below LD.out.bel)
    have PR := Lib.hid (P8.out.below LD.out.bel)
    by_cases hlt : k < L
    · have hkl : k < l.length := by rw [← HL.out]; exact hlt
      have hki : (k : Int) < (L : Int) := by omega
      obtain ⟨aA, rfl, CE⟩ := SR.out.irow.at_ k hkl
      obtain ⟨c0, c1, c2, c3⟩ := CE.spelt
      obtain ⟨pad, rfl, plt, cp⟩ := PR.out.row.1 k (by rw [HVL.out]; exact hlt)
      have HCE := Lib.hid CE
      obtain ⟨⟨tv, bv, rv, lv⟩, hp4⟩ : ∃ p, p = l.getD k it0 := ⟨_, rfl⟩
      have hrv : rv = (rdN l k : Int) := by rw [← (HPL.out.rd hkl).1]; unfold rnd; rw [← hp4]
      have hlv : lv = (lnN l k : Int) := by rw [← (HPL.out.ln hkl).1, ← hp4]
      have hcv := (HPL.out.cd hkl).1
      have HREAL := Lib.hid (show realL (cdN v k : Int) (rdN l k : Int) = toZ (blM (cdN v k) (rdN l k) 12) ∧ realE (cdN v k : Int) (rdN l k : Int) = 0 by
        have := HPL.out.real hkl
        rw [hcv, (HPL.out.rd hkl).1, blN_toZ] at this
        exact this)
      rw [hcv] at cp
      rw [← hp4] at c0 c1 c2 c3 HCE
      have HSTEP := Lib.hid (show ldM S (cdN v) (rdN l) (lnN l) (k + 1) = (blM (cdN v k) (rdN l k) 12).foldl (addL (lnN l k)) (ldM S (cdN v) (rdN l) (lnN l) k) from rfl)
      have HMS := Lib.hid (mvN_succ (cdN v) (rdN l) k)
      have HLB := Lib.hid (ldM_bd (S := S) (cd := cdN v) (rd := rdN l) (ln := lnN l) HPL.out.lns k)
      have hln := HPL.out.lns k
      have hmb := mvN_bd (cdN v) (rdN l) k
      have HKS := Lib.hid (HPL.out.cd hkl).2.1
      obtain ⟨K, hK⟩ : ∃ K, K = cdN v k := ⟨_, rfl⟩
      obtain ⟨R, hR⟩ : ∃ R, R = rdN l k := ⟨_, rfl⟩
      obtain ⟨gw, hgw⟩ : ∃ x, x = lnN l k := ⟨_, rfl⟩
      obtain ⟨ls, hls⟩ : ∃ ls, ls = ldM S (cdN v) (rdN l) (lnN l) k := ⟨_, rfl⟩
      obtain ⟨mk, hmk⟩ : ∃ x, x = mvN (cdN v) (rdN l) k := ⟨_, rfl⟩
      rw [← hK] at cp HREAL HSTEP HMS HKS
      rw [← hR] at hrv HREAL HSTEP HMS
      rw [← hgw] at hlv HSTEP hln
      rw [← hls] at LD HSTEP HLB
      rw [← hmk] at HMS hmb ⊢
      have HGW := Lib.hid hgw.symm
      clear hK hR hgw hls hp4 hcv CE hmk
      subst hrv
      subst hlv
      have J := SR.out.box
      rw [← HL.out] at J
      obtain ⟨j0, j1, jl⟩ := J
      go_wp2_with fail
      refine (rreal_any (K : Int) (R : Int) wr).mono ?_
      rintro e w10 ⟨zv, rfl, OZ, BZ⟩
      rw [HREAL.out.1] at OZ
      rw [HREAL.out.2]
      have hozc := OZ
      obtain ⟨zA, zc, ez, ZR, -, -, -⟩ := hozc.slice
      obtain ⟨Z, hZ⟩ : ∃ Z, Z = blM K R 12 := ⟨_, rfl⟩
      rw [← hZ] at ez ZR OZ HSTEP HMS
      obtain ⟨zn, hzn⟩ : ∃ zn, zn = (toZ Z).length := ⟨_, rfl⟩
      rw [← hzn] at ez
      subst ez
      have HZ := Lib.hid hZ
      have HZN := Lib.hid (show zn = Z.length by rw [hzn, toZ_len])
      have hzn12 : zn ≤ 12 := by rw [HZN.out, hZ]; exact blM_len K R 12
      have HOZ := Lib.hid OZ
      have HQ3 := Lib.hid LD.out.ge.2
      have LD2 := Lib.hid (LD.out.below BZ)
      have HMN := Lib.hid (show (mk : Int) + (1 + (zn : Int)) = ((mvN (cdN v) (rdN l) (k + 1) : Nat) : Int) by rw [HMS.out, ← HZN.out]; omega)
      have hmk2 : mk ≤ 2000 := by omega
      clear hmb
      clear OZ ZR BZ hZ hzn hozc j0 j1 jl c0 c1 c2 c3 cp SR PR
      go_wp2_with fail
      rw [HMN.out]
      clear hmk2
      go_loopw [66] (fun iv wi => ∃ i : Nat, i ≤ zn ∧ iv = .int .i64 (i : Int) ∧ Hid (LdS w8 wi g S ((Z.take i).foldl (addL gw) ls)) ∧ Hid (Own .i64 3 wi wr.heap.size (.slice zA zn zc) (toZ Z))) (fun iv _ => zn - (intOf iv).toNat)
      case atStart => exact ⟨0, by omega, rfl, LD2, HOZ⟩
      case round =>
        clear LD2 HOZ
        obtain ⟨i, hi, rfl, LI, OI⟩ := hrel
        by_cases hlt2 : i < zn
        · have hiz : i < Z.length := by rw [← HZN.out]; exact hlt2
          have hio := OI.out
          obtain ⟨A', c', ev, UR, -, -, -⟩ := hio.slice
          obtain rfl : zA = A' := by injection ev
          obtain ⟨zad, rfl, zlt, zc1⟩ := UR i (by rw [toZ_len]; exact hiz)
          rw [toZ_at Z hiz] at zc1
          have HMEM := Lib.hid (show Z.getD i 0 < S by
            have h1 := (blM_mem 12 _).1 (show Z.getD i 0 ∈ blM K R 12 by rw [← HZ.out]; exact getD_memN hiz)
            rcases Nat.lt_or_ge (Z.getD i 0) S with g1 | g1
            · exact g1
            · have h3 := bit_high (K := K) (S := S) (b := Z.getD i 0) (HKS.out) g1
              rw [h3] at h1; cases h1.2.2)
          have HTS := Lib.hid (take_succL hiz)
          obtain ⟨B, hB⟩ : ∃ B, B = Z.getD i 0 := ⟨_, rfl⟩
          rw [← hB] at zc1 HMEM HTS
          clear hB
          have hii : (i : Int) < (zn : Int) := by omega
          have hBN := HMEM.out
          have hBi : (B : Int) < (S : Int) := by omega
          have HLB2 := Lib.hid (foldL_bd (x := gw) (Z.take i) _ _ HLB.out B)
          obtain ⟨lc, hlc⟩ : ∃ x, x = ((Z.take i).foldl (addL gw) ls).getD B 0 := ⟨_, rfl⟩
          have hlcb : lc ≤ 2000000 := by
            have h1 := HLB2.out
            rw [← hlc, List.length_take] at h1
            have h2 : min i Z.length * gw ≤ 12 * 400 := Nat.mul_le_mul (by omega) hln
            omega
          have cB := LI.out.cell hBN
          rw [← hlc] at cB
          have fB := LI.out.frozen B
          have hwr : IntKind.i64.wrap ((lc : Int) + (gw : Int)) = (lc : Int) + (gw : Int) := IntWalk.i64_in _ (by omega)
          have HNEXT := Lib.hid (show LdS w8 (wr.setCell ⟨g, B, none⟩ (.int .i64 ((lc : Int) + (gw : Int)))) g S ((Z.take (i + 1)).foldl (addL gw) ls) by
            have := LI.out.add B gw
            rw [← hlc] at this
            rw [HTS.out, List.foldl_append]
            rw [show ((lc : Int) + (gw : Int)) = ((lc + gw : Nat) : Int) by omega]
            exact this)
          have HON := Lib.hid (OI.out.setN (p := ⟨g, B, none⟩) (fun g' hg' => by have h1 := (own_block OI.out hg').1; have := HQ3.out; show g' ≠ g; omega) (.int .i64 ((lc : Int) + (gw : Int))))
          have SI := S8.out.below LI.out.bel
          have J := SI.box
          rw [← HL.out] at J
          obtain ⟨j0, j1, jl⟩ := J
          obtain ⟨aB, eB, CE⟩ := SI.irow.at_ k hkl
          obtain rfl : aA = aB := by injection eB
          obtain ⟨-, -, -, c3⟩ := CE.spelt
          have hlv : (l.getD k it0).2.2.2 = (gw : Int) := by rw [(HPL.out.ln hkl).1, HGW.out]
          rw [hlv] at c3
          clear UR ev hio hlc LI OI HLB2 SI eB CE hlv
          go_wp2_with fail
          go_region
          clear zc1 cB fB hwr c3 j0 j1 jl
          go_wp2_with fail
          go_roundw
          case rel => exact ⟨i + 1, by omega, by go_num, Lib.hid (HNEXT.out.below ⟨rfl, rfl, rfl, Nat.le_refl _, fun _ _ => rfl⟩), HON⟩
          case measure => simp [intOf]; omega
        · have hiz : i = zn := by omega
          have hni : ¬ (i : Int) < (zn : Int) := by omega
          have hli := LI.out
          rw [hiz, HZN.out, List.take_length, ← HSTEP.out] at hli
          have HLI := Lib.hid hli
          clear hiz hlt2 OI hli LI
          go_wp2_with fail
          go_roundw
          case rel => exact ⟨k + 1, by omega, by go_num, rfl, HLI⟩
          case measure => simp [intOf]; omega
    · have hkL : k = L := by omega
      have hni : ¬ (k : Int) < (L : Int) := by omega
      have hmm : ((mv : Int) == (mv : Int)) = true := by simp
      rw [hkL, ← HMV.out]
      rw [hkL] at LD
      have HTK := Lib.hid (show (toZ (ldN S T (cdN v) (rdN l) (tnN l) (lnN l) L)).take S = toZ (ldM S (cdN v) (rdN l) (lnN l) L) by
        have hf := HPL.out.fitN
        rw [← HTT.out, ← HL.out] at hf
        rw [toZ_take, ldN_take hf L (Nat.le_refl _)])
      obtain ⟨p0, p1, -, pl⟩ := PR.out.box
      have HUR := Lib.hid (HU.out.below LD.out.bel)
      have hs8 := (LD.out.bel.cell (p := ⟨sb, 1, none⟩) HSL8.out).trans HS8.out
      have hge : ¬ ((S : Int) + (T : Int) < (S : Int)) := by omega
      have hge1 : ¬ ((S + T : Nat) : Int) < (S : Int) := by omega
      have hge2 : (S : Int) ≤ ((S + T : Nat) : Int) := by omega
      have hge3 : S ≤ uc := by omega
      have hge4 : (S : Int) ≤ (uc : Int) := by omega
      have HZR := Lib.hid (show Row .i64 wr wr.heap.size uA (toZ (ldM S (cdN v) (rdN l) (lnN l) L)) by rw [← HTK.out]; exact HUR.out.take S)
      have hlo := LD.out.own
      obtain ⟨gA, gc, eg, GR, -⟩ := hlo.slice
      have hgA : gA = some ⟨g, 0, none⟩ := by injection eg with e1; exact e1.symm
      rw [hgA] at GR
      have HIN := Lib.hid (Calls.mono (ints_any (toZ (ldM S (cdN v) (rdN l) (lnN l) L)) (toZ (ldM S (cdN v) (rdN l) (lnN l) L)) uA (some ⟨g, 0, none⟩) S S uc S wr (by rw [toZ_len, ldM_len]) (by rw [toZ_len, ldM_len]) HZR.out GR (by rw [toZ_len, ldM_len]; unfold maxLen; omega) (by rw [toZ_len, ldM_len]; unfold maxLen; omega)) (fun e w' h => (⟨by rw [h.1, decide_eq_true rfl], h.2⟩ : e = .returned (.bool true) ∧ ∃ n, w' = wr.drewN n)))
      have HBL := Lib.hid SR.out.bel
      clear hkL hlt LD HTK HUR hlo eg hgA GR SR PR
      go_wp2_with fail
      refine HIN.out.mono ?_
      rintro e w10 ⟨rfl, n10, hw10⟩
      have HB10 := Lib.hid (show Below w.heap.size w w10 by rw [hw10]; exact HBL.out.trans ⟨rfl, rfl, rfl, Nat.le_refl _, fun _ _ => rfl⟩)
      clear hw10 p0 p1 pl hs8 HIN
      go_wp2_with fail
      refine (sane14_any w10).mono ?_
      rintro e wz ⟨rfl, BZ⟩
      have HZ := Lib.hid (HB10.out.trans (BZ.mono HB10.out.size))
      clear BZ
      go_wp2_with fail
      go_ret
      exact ⟨rfl, HZ.out⟩
theorem mov_law (a : Option Addr) (len cap : Nat) (zs : List Int) (w : World) (h : IsRow .i64 w a len cap zs) :
    Calls Try.prog 8 #[.slice a len cap] w fun e w' => e = .returned (.bool true) ∧ Below w.heap.size w w' := by
  obtain ⟨l, rfl, h1, h2, h3⟩ := h.row
  exact mov_walk a cap l w h1 h2 h3
end Go.Proofs.Ytkopbnppjhdbgaa
