/-
  Stage 15: the walk of CertificateProves.
-/
import Derived.Test.YtlagadbkencpbaaBA3
import Derived.Test.YtlagadbkencpbaaBC1
set_option linter.unusedSimpArgs false
set_option linter.unusedVariables false
namespace Go.Proofs.Ytlagadbkencpbaa
open Go.RowKit Go.Lib

theorem own_noneP {w : World} {base n c : Nat} {A : Option Addr} {zs : List Int} {T : TypeId} (h : Own .i64 T w base (.slice A n c) zs) : A = none → n = 0 ∧ c = 0 := by
  intro e
  rcases h.2 with ⟨e1, _⟩ | ⟨g, cap, cur, e1, _⟩
  · injection e1 with _ e2 e3
    exact ⟨e2, e3⟩
  · subst e; injection e1 with e1; cases e1
theorem make_chl {l : List It} {wt st : Int} {v ch : List Int} (hv : validR l wt = 0) (h : MakeR l wt st v ch 0) : ch.length ≤ 96 := by
  have hf := formOk_of hv
  rcases h.2.valid hv with ⟨h1, _⟩ | ⟨_, bs, u, h2, h3⟩
  · cases h1
  · rcases h3 with ⟨_, rfl⟩ | ⟨y, c, h4, h5, rfl⟩
    · exact Nat.zero_le _
    · have hy : y < l.length := by rw [← h2.vlen]; exact h4.lt
      have h6 := h5.len hf.blk hy
      have h7 := (hf.blk y hy).2
      rw [toZ_len]
      omega
/-- The same, of a proof in a block of a law's own. -/
theorem spo_st {w wr : World} {b c g n cc nn d N : Nat} {A V C : Option Addr} {l : List It} {wt st : Int} {v ch : List Int} (S C0 : Int) (hS : 0 ≤ S ∧ S ≤ 1000000) (hC : 0 ≤ C0 ∧ C0 ≤ 1000000) (J : JM w wr b A c l wt N) (Q : QSt wr w.heap.size g st V n cc C nn d v ch) (hN : N ≤ 900000) (hn : n ≤ 1000000) (hnn : nn ≤ 1000000) (hb : SpB S C0 st v) :
    Calls Try.prog 17 #[.pointer (some ⟨w.heap.size, 0, none⟩), qv st V n cc C nn d] wr (SpoPost w.heap.size N S C0 n nn wr) :=
  have hv := own_read Q.ov
  have hu := own_read Q.ou
  spo_any w.heap.size N st v ch V C n cc nn d S C0 wr J.mkr hN hv.1 hu.1 hv.2.1 hu.2.1 (own_noneP Q.ov) (own_noneP Q.ou) hn hnn hS hC hb
set_option maxRecDepth 100000 in
set_option maxHeartbeats 6400000 in
theorem prv_walk (A : Option Addr) (c : Nat) (zs : List Int) (w : World) (hr : Row .i64 w w.heap.size A zs) (hm : zs.length ≤ maxLen) (hw : ∀ n ∈ zs, (Lit.int .i64 n).wf = true) :
    Calls Try.prog 6 #[.slice A zs.length c] w fun e w' => e = .returned (.bool true) ∧ Below w.heap.size w w' := by
  have K := Lib.hid (mk_row (c := c) (T := 72) hr hm hw)
  have B := Lib.hid ((Below.refl w.heap.size w).alloc (Nat.le_refl _) (.cells #[.slice A zs.length c, .int .i64 0] 72))
  clear hr hw
  go_enter Try.func6, Try.ntmps6
  go_wp2_with fail
  refine (new_any A zs.length c w).mono ?_
  rintro e w1 ⟨rfl, hw1⟩
  rw [← hw1] at K B
  clear hw1 hm
  go_wp2_with fail
  refine mjob_start w w1 12 (by omega) K.out B.out ?_
  intro jA jc l wt w2 hl hlt hS
  obtain ⟨b, hb⟩ : ∃ b, b = w2.heap.size := ⟨_, rfl⟩
  have S := Lib.hid (hS b hb)
  clear K B hS hlt
  go_upto_region 3 with fail
  rw [← hb]
  generalize w2.alloc (.cells #[.slice jA l.length jc, .int .i64 wt] 39) = w3 at *
  clear hb
  obtain ⟨L, hL⟩ : ∃ n, n = l.length := ⟨_, rfl⟩
  have HL := Lib.hid hL
  have HMK := Lib.hid (make_any l jA jc L wt hL w3 S.out.irow)
  have HLE := Lib.hid (fun (W : World) (k : IRow W jA l) => least_any l jA jc L wt hL W k)
  have J := S.out.box
  rw [← hL] at J hl ⊢
  obtain ⟨j0, j1, jl⟩ := J
  clear hL
  go_wp2_with fail
  refine HMK.out.mono ?_
  rintro e w4 ⟨st, vA, vn, vc, uA, un, uc, er, v, ch, rfl, OV, OU, B4, hmk⟩
  have HOK := Lib.hid (hmk.ok S.out.val)
  have HCM := Lib.hid (fun (e : er = 0) => chk_make S.out.val (by rw [e] at hmk; exact hmk))
  obtain ⟨g1, hg1⟩ : ∃ g, g = w4.heap.size := ⟨_, rfl⟩
  have hbw : w.heap.size < w3.heap.size := Nat.lt_trans S.out.lt S.out.box.lt
  have Q4 := Lib.hid (QSt.new (st := st) (m := w.heap.size) OV OU hbw g1 hg1 (by rw [hg1]; exact Nat.lt_of_lt_of_le hbw B4.size))
  have BX := (Below.refl w4.heap.size w4).alloc (Nat.le_refl _) (qcells st vA vn vc uA un uc)
  have S4 := Lib.hid ((S.out.below B4).below BX)
  have hbg : b < g1 := by rw [hg1]; exact Nat.lt_of_lt_of_le S.out.box.lt B4.size
  have HUN := Lib.hid (show er = 0 → un ≤ 96 from fun e => by
    have h1 := (own_read OU).1
    have h2 := make_chl S.out.val (by rw [e] at hmk; exact hmk)
    omega)
  clear j0 j1 jl S OV OU B4 hmk BX HMK hbw
  go_upto_region 4 with fail
  rw [← hg1]
  generalize w4.alloc (qcells st vA vn vc uA un uc) = w5 at *
  clear hg1
  rcases HOK.out with ⟨rfl, -, -, -⟩ | ⟨rfl, hvl, hst, hvb⟩
  · clear HOK HCM
    go_wp2_with fail
    refine (sane15_any w5).mono ?_
    rintro e wz ⟨rfl, BZ⟩
    have HZ := Lib.hid (S4.out.bel.trans (BZ.mono S4.out.bel.size))
    clear BZ
    go_wp2_with fail
    go_ret
    exact ⟨rfl, HZ.out⟩
  · obtain ⟨hvn, -, -⟩ := own_read Q4.out.ov
    have hvL : vn = L := by rw [hvn, hvl, HL.out]
    subst hvL
    have hck := HCM.out rfl
    have hun := HUN.out rfl
    have HSB := Lib.hid (show SpB 12 4095 st v from ⟨by omega, fun x => by have := hvb x; omega⟩)
    have HC5 := Lib.hid (check_st S4.out Q4.out)
    rw [hck, ← HL.out] at HC5
    have J := S4.out.box
    rw [← HL.out] at J
    obtain ⟨j0, j1, jl⟩ := J
    obtain ⟨p0, p1, p2, -, pl⟩ := Q4.out.box
    clear hvn hvl hst hvb HOK HCM HUN hck
    go_wp2_with fail
    refine HC5.out.mono ?_
    rintro e w6 ⟨rfl, B6⟩
    have S6 := Lib.hid (S4.out.below B6)
    have Q6 := Lib.hid (Q4.out.below B6)
    clear S4 Q4 B6 HC5 j0 j1 jl p0 p1 p2 pl
    go_wp2_with fail
    go_loopw [7] (fun iv wr => ∃ (i M : Nat) (st : Int) (vA : Option Addr) (vc : Nat) (uA : Option Addr) (un uc : Nat) (v ch : List Int), i ≤ 4 ∧ iv = .int .i64 (i : Int) ∧ M ≤ 65 + 3 * i ∧ un ≤ 96 ∧ Hid (SpB (12 + i) (4095 + 4 * i) st v) ∧ Hid (JM w wr b jA jc l wt M) ∧ Hid (QSt wr w.heap.size g1 st vA vn vc uA un uc v ch)) (fun iv _ => 4 - (intOf iv).toNat)
    case atStart => exact ⟨0, 65, st, vA, vc, uA, un, uc, v, ch, by omega, rfl, by omega, hun, HSB, S6, Q6⟩
    case round =>
      clear S6 Q6 HSB hun
      obtain ⟨i, M, st, vA, vc, uA, un, uc, v, ch, hi, rfl, hM, hun, HSB, S6, Q6⟩ := hrel
      by_cases hlt : i < 4
      · have hii : (i : Int) < 4 := by omega
        have HC6 := Lib.hid (check_st S6.out Q6.out)
        rw [← HL.out] at HC6
        have HRP := Lib.hid (fun (h : chkE l wt st v ch = 0) => show val14 l wt st v = 0 ∧ ∀ S : Nat, Pl l wt S v → sortE l wt ((mT S l.length (tnT l) (cdN v) (rdN l) (tnN l) (S + 1)).map toZ) = (true, 0) from by
          obtain ⟨h1, h2, _, _⟩ := chk_parts h
          exact ⟨h1, fun S hp => by unfold sortE; rw [if_pos hp.val, sor_plain hp, allR_ordB, h2]⟩)
        have HST := Lib.hid (fun (h : chkE l wt st v ch = 0) (st' er : Int) (v' : List Int) (k : LeastR l wt st' v' er) => chk_steps h k)
        obtain ⟨ce, hce⟩ : ∃ x, x = chkE l wt st v ch := ⟨_, rfl⟩
        rw [← hce] at HC6 HRP HST
        have J := S6.out.box
        rw [← HL.out] at J
        obtain ⟨j0, j1, jl⟩ := J
        obtain ⟨p0, p1, p2, -, pl⟩ := Q6.out.box
        clear hce
        go_wp2_with fail
        refine HC6.out.mono ?_
        rintro e w7 ⟨rfl, B7⟩
        have S7 := Lib.hid (S6.out.below B7)
        have Q7 := Lib.hid (Q6.out.below B7)
        clear S6 Q6 B7 HC6 j0 j1 jl p0 p1 p2 pl
        have J := S7.out.box
        rw [← HL.out] at J
        obtain ⟨j0, j1, jl⟩ := J
        obtain ⟨p0, p1, p2, -, pl⟩ := Q7.out.box
        by_cases hc0 : ce = 0
        · obtain ⟨hva, hso⟩ := HRP.out hc0
          have HSTT := Lib.hid (HST.out hc0)
          have HSO := Lib.hid hso
          have HRU := Lib.hid (run_any l jA jc vn wt st v vA vn vc HL.out (own_read Q7.out.ov).1 w7 S7.out.irow (own_read Q7.out.ov).2.1 (own_read Q7.out.ov).2.2)
          have HVA := Lib.hid hva
          subst hc0
          clear HRP HST hva hso
          go_wp2_with fail
          refine HRU.out.mono ?_
          rintro e w8 hru
          rcases hru with ⟨hbad, -, -⟩ | ⟨-, S, gt, hstS, hpl, rfl, hrl⟩
          · exact absurd HVA.out hbad
          obtain ⟨mv, hmv⟩ : ∃ x : Int, x = (mM S l.length (cdN v) (rdN l) (S + 1) : Int) := ⟨_, rfl⟩
          rw [← hmv]
          have BX := (Below.refl w8.heap.size w8).alloc (Nat.le_refl _) (.cells #[.slice (some ⟨gt, 0, none⟩) (tnT l) (tnT l), .int .i64 mv] 54)
          have S9 := Lib.hid ((S7.out.below hrl.bel).below BX)
          have Q9 := Lib.hid ((Q7.out.below hrl.bel).below BX)
          have HPP := Lib.hid (hrl.pp.below BX)
          have HS9 := Lib.hid (HSO.out S hpl)
          have r0 := cell_new w8 #[.slice (some ⟨gt, 0, none⟩) (tnT l) (tnT l), .int .i64 mv] 54 0
          have r1 := cell_new w8 #[.slice (some ⟨gt, 0, none⟩) (tnT l) (tnT l), .int .i64 mv] 54 1
          replace r0 : (w8.alloc (.cells #[.slice (some ⟨gt, 0, none⟩) (tnT l) (tnT l), .int .i64 mv] 54)).cell? ⟨w8.heap.size, 0, none⟩ = some (.slice (some ⟨gt, 0, none⟩) (tnT l) (tnT l)) := r0
          clear r1 HSO hmv hstS hpl hrl BX HRU S7 Q7 j0 j1 jl p0 p1 p2 pl
          obtain ⟨ts, hts⟩ : ∃ ts, ts = (mT S l.length (tnT l) (cdN v) (rdN l) (tnN l) (S + 1)).map toZ := ⟨_, rfl⟩
          have htl : ts.length = tnT l := by rw [hts, List.length_map, mT_len]
          rw [← hts] at HPP HS9
          obtain ⟨T, hT⟩ : ∃ T, T = tnT l := ⟨_, rfl⟩
          have hT16 : T ≤ 100 := by
            have := (tcI_bd (valid_ok S9.out.val).2.1 l.length (Nat.le_refl _)).1
            rw [hT]; unfold tnT; omega
          rw [← hT] at htl r0 HPP S9 Q9 ⊢
          have HSA := Lib.hid (fun (W : World) (k : IRow W jA l) (p : PP W (some ⟨gt, 0, none⟩) ts) => sorted_any l jA jc wt ts (some ⟨gt, 0, none⟩) T W k p (by rw [htl]; unfold maxLen; omega))
          rw [← HL.out, htl, HS9.out] at HSA
          clear hts htl hT hT16
          go_upto_region 13 with fail
          obtain ⟨g8, hg8⟩ : ∃ g, g = w8.heap.size := ⟨_, rfl⟩
          rw [← hg8] at r0 ⊢
          generalize w8.alloc (.cells #[.slice (some ⟨gt, 0, none⟩) T T, .int .i64 mv] 54) = w9 at *
          clear hg8
          have J := S9.out.box
          rw [← HL.out] at J
          obtain ⟨j0, j1, jl⟩ := J
          go_wp2_with fail
          refine (HSA.out w9 S9.out.irow HPP.out).mono ?_
          rintro e wa ⟨rfl, Ba⟩
          have SA := Lib.hid (S9.out.below Ba)
          have QA := Lib.hid (Q9.out.below Ba)
          clear S9 Q9 Ba HSA HPP HS9 j0 j1 jl r0
          have J := SA.out.box
          rw [← HL.out] at J
          obtain ⟨j0, j1, jl⟩ := J
          go_wp2_with fail
          refine (HLE.out wa SA.out.irow).mono ?_
          rintro e wb ⟨st', xA, xn, xc, er', v', rfl, OX, Bb, hle⟩
          obtain ⟨he0, hse⟩ := HSTT.out st' er' v' hle
          have BX := (Below.refl wb.heap.size wb).alloc (Nat.le_refl _) (.cells #[.int .i64 st', .slice xA xn xc] 24)
          have PX := Lib.hid (PBox.new (w := wb) (st := st') (A := xA) (n := xn) (c := xc) wb.heap.size rfl)
          have S7 := Lib.hid ((SA.out.below Bb).below BX)
          have Q7 := Lib.hid ((QA.out.below Bb).below BX)
          clear SA QA Bb BX OX hle HSTT j0 j1 jl
          rw [he0, hse] at *
          clear he0 hse
          go_upto_region 15 with fail
          obtain ⟨gb, hgb⟩ : ∃ g, g = wb.heap.size := ⟨_, rfl⟩
          rw [← hgb] at PX ⊢
          generalize wb.alloc (.cells #[.int .i64 st, .slice xA xn xc] 24) = w7 at *
          clear hgb
          obtain ⟨x0, x1, -, xl⟩ := PX.out
          obtain ⟨p0, p1, p2, -, pl⟩ := Q7.out.box
          have hss : (st != st) = false := by simp
          go_upto_region 17 with fail
          clear x0 x1 xl PX hss
          have HSPO := Lib.hid (spo_st (12 + i) (4095 + 4 * i) (by omega) (by omega) S7.out Q7.out (by omega) (by omega) (by omega) HSB.out)
          have hmg := Q7.out.lt
          go_wp2_with fail
          refine HSPO.out.mono ?_
          rintro e wc ⟨st2, yA, yc, zA, zn, zc, v2, ch2, rfl, OY, OZ, K2, M2, hb2, hzn⟩
          have hg7 : g1 < w7.heap.size := Q7.out.box.lt
          have SC := S7.out.step M2 K2
          have QC := Q7.out.step M2
          have ny : ∀ q, (Value.slice yA vn yc).ownBlock = some q → q ≠ g1 := fun q e => by have := (own_block OY e).1; omega
          have nz : ∀ q, (Value.slice zA zn zc).ownBlock = some q → q ≠ g1 := fun q e => by have := (own_block OZ e).1; omega
          have QD := Lib.hid (QC.put (st' := st2) (OY.base (show w.heap.size + 1 ≤ w7.heap.size by omega)) (OZ.base (show w.heap.size + 1 ≤ w7.heap.size by omega)) ny nz)
          have SD := Lib.hid (SC.under ((((Below.refl g1 wc).setCell (p := ⟨g1, 0, none⟩) (Nat.le_refl _) (.int .i64 st2)).setCell (p := ⟨g1, 1, none⟩) (Nat.le_refl _) (.slice yA vn yc)).setCell (p := ⟨g1, 2, none⟩) (Nat.le_refl _) (.slice zA zn zc)) hbg)
          have HB2 := Lib.hid (hb2.more (S' := 12 + ((i + 1 : Nat) : Int)) (C' := 4095 + 4 * ((i + 1 : Nat) : Int)) (by omega) (by omega))
          obtain ⟨y0, y1, y2, yf, yl⟩ := QC.box
          have f0 := yf 0
          have f1 := yf 1
          have f2 := yf 2
          clear yf S7 Q7 SC QC OY OZ K2 M2 hb2 ny nz HSPO HSB p0 p1 p2 pl
          go_wp2_with fail
          go_roundw
          case rel => exact ⟨i + 1, M + 3, st2, yA, yc, zA, zn, zc, v2, ch2, by omega, by go_num, by omega, by omega, HB2, SD, QD⟩
          case measure => simp [intOf]; omega
        · have hcb : (ce == 0) = false := beq_eq_false_iff_ne.2 hc0
          clear HRP HST hc0
          go_upto_region 17 with fail
          clear hcb
          have HSPO := Lib.hid (spo_st (12 + i) (4095 + 4 * i) (by omega) (by omega) S7.out Q7.out (by omega) (by omega) (by omega) HSB.out)
          have hmg := Q7.out.lt
          go_wp2_with fail
          refine HSPO.out.mono ?_
          rintro e wc ⟨st2, yA, yc, zA, zn, zc, v2, ch2, rfl, OY, OZ, K2, M2, hb2, hzn⟩
          have hg7 : g1 < w7.heap.size := Q7.out.box.lt
          have SC := S7.out.step M2 K2
          have QC := Q7.out.step M2
          have ny : ∀ q, (Value.slice yA vn yc).ownBlock = some q → q ≠ g1 := fun q e => by have := (own_block OY e).1; omega
          have nz : ∀ q, (Value.slice zA zn zc).ownBlock = some q → q ≠ g1 := fun q e => by have := (own_block OZ e).1; omega
          have QD := Lib.hid (QC.put (st' := st2) (OY.base (show w.heap.size + 1 ≤ w7.heap.size by omega)) (OZ.base (show w.heap.size + 1 ≤ w7.heap.size by omega)) ny nz)
          have SD := Lib.hid (SC.under ((((Below.refl g1 wc).setCell (p := ⟨g1, 0, none⟩) (Nat.le_refl _) (.int .i64 st2)).setCell (p := ⟨g1, 1, none⟩) (Nat.le_refl _) (.slice yA vn yc)).setCell (p := ⟨g1, 2, none⟩) (Nat.le_refl _) (.slice zA zn zc)) hbg)
          have HB2 := Lib.hid (hb2.more (S' := 12 + ((i + 1 : Nat) : Int)) (C' := 4095 + 4 * ((i + 1 : Nat) : Int)) (by omega) (by omega))
          obtain ⟨y0, y1, y2, yf, yl⟩ := QC.box
          have f0 := yf 0
          have f1 := yf 1
          have f2 := yf 2
          clear yf S7 Q7 SC QC OY OZ K2 M2 hb2 ny nz HSPO HSB p0 p1 p2 pl
          go_wp2_with fail
          go_roundw
          case rel => exact ⟨i + 1, M + 3, st2, yA, yc, zA, zn, zc, v2, ch2, by omega, by go_num, by omega, by omega, HB2, SD, QD⟩
          case measure => simp [intOf]; omega
      · have hii : ¬ (i : Int) < 4 := by omega
        go_wp2_with fail
        refine (sane15_any _).mono ?_
        rintro e wz ⟨rfl, BZ⟩
        have HZ := Lib.hid (S6.out.bel.trans (BZ.mono S6.out.bel.size))
        clear BZ
        go_wp2_with fail
        go_ret
        exact ⟨rfl, HZ.out⟩
theorem prv_law (a : Option Addr) (len cap : Nat) (zs : List Int) (w : World) (h : IsRow .i64 w a len cap zs) :
    Calls Try.prog 6 #[.slice a len cap] w fun e w' => e = .returned (.bool true) ∧ Below w.heap.size w w' := by
  obtain ⟨l, rfl, h1, h2, h3⟩ := h.row
  exact prv_walk a cap l w h1 h2 h3
end Go.Proofs.Ytlagadbkencpbaa
