/-
  Stage 17: the walk of PlannerProved.
-/
import Derived.Test.YtimkmieohkefiaaGreatBA5
set_option linter.unusedSimpArgs false
set_option linter.unusedVariables false
namespace Go.Proofs.YtimkmieohkefiaaGreat
open Go.RowKit Go.Lib

/-- Made items and tracks. -/
structure L17 (w wr : World) (IA : Option Addr) (ic L : Nat) (l : List It) (TA : Option Addr) (tc bn : Nat) (b : List Int) : Prop where
  len : L = l.length
  nil : IA = none → L = 0 ∧ ic = 0
  val : validR l 0 = 0
  blen : bn = b.length
  b32 : bn ≤ 32
  irow : IRow wr IA l
  trow : Row .i64 wr wr.heap.size TA b
  trk : trkE b = 0
  bel : Below w.heap.size w wr
theorem L17.below {w wr w' : World} {IA : Option Addr} {ic L : Nat} {l : List It} {TA : Option Addr} {tc bn : Nat} {b : List Int} (h : L17 w wr IA ic L l TA tc bn b) (k : Below wr.heap.size wr w') : L17 w w' IA ic L l TA tc bn b :=
  ⟨h.len, h.nil, h.val, h.blen, h.b32, h.irow.below k, h.trow.below k, h.trk, h.bel.trans (k.mono h.bel.size)⟩
theorem L17.plan {w wr : World} {IA : Option Addr} {ic L : Nat} {l : List It} {TA : Option Addr} {tc bn : Nat} {b : List Int} (h : L17 w wr IA ic L l TA tc bn b) :
    Calls Tryz.prog 13 #[.slice IA L ic, .slice TA bn tc] wr (PlanPost17 l b wr) :=
  pplan_any l IA ic L b TA bn tc h.len h.nil h.blen (by have := h.b32; have := h.blen; unfold maxLen; omega) wr h.irow h.trow
set_option maxRecDepth 100000 in
set_option maxHeartbeats 6400000 in
theorem proved_walk (A : Option Addr) (c : Nat) (zs : List Int) (w : World) (hr : Row .i64 w w.heap.size A zs) (hm : zs.length ≤ maxLen) (hw : ∀ n ∈ zs, (Lit.int .i64 n).wf = true) :
    Calls Tryz.prog 6 #[.slice A zs.length c] w fun e w' => e = .returned (.bool true) ∧ Below w.heap.size w w' := by
  have K := Lib.hid (mk_row (c := c) (T := 90) hr hm hw)
  have B := Lib.hid ((Below.refl w.heap.size w).alloc (Nat.le_refl _) (.cells #[.slice A zs.length c, .int .i64 0] 90))
  clear hr hw
  go_enter Tryz.func6, Tryz.ntmps6
  go_wp2_with fail
  refine (new_any A zs.length c w).mono ?_
  rintro e w1 ⟨rfl, hw1⟩
  rw [← hw1] at K B
  clear hw1 hm
  go_wp2_with fail
  refine (mitems_any w.heap.size 0 12 w1 K.out (by omega) (by omega)).mono ?_
  rintro e w2 ⟨v2, l, rfl, O2, hl, hru, k2, m2⟩
  obtain ⟨IA, ic, rfl, -, hIA⟩ := O2.args
  have HO2 := Lib.hid O2
  have HV := Lib.hid (show validR l 0 = 0 from valid_of (by omega) hru (by decide))
  have B2 := Lib.hid (m2.below B.out (Nat.le_refl _) B.out.size)
  have K2 := Lib.hid k2
  have HML := Lib.hid K.out.lt
  obtain ⟨L, hL⟩ : ∃ n, n = l.length := ⟨_, rfl⟩
  have HLL := Lib.hid (And.intro hL hl)
  rw [← hL] at hIA ⊢
  have HIA := Lib.hid hIA
  clear K B O2 hru k2 m2 hIA hL hl
  go_wp2_with fail
  refine (tracks_any w.heap.size _ w2 K2.out (by omega)).mono ?_
  rintro e w3 ⟨v3, b, rfl, O3, hb1, hb2, k3, m3⟩
  obtain ⟨TA, tc, rfl, -, -, -, -⟩ := O3.slice
  obtain ⟨bn, hbn⟩ : ∃ n, n = b.length := ⟨_, rfl⟩
  have S3 := Lib.hid (show L17 w w3 IA ic L l TA tc bn b from ⟨HLL.out.1, HIA.out, HV.out, hbn, by omega, (HO2.out.moves m3 HML.out).irow, (own_read O3).2.1, trk_ok (by omega) (fun z hz => by have := trkL_bd (hb2 z hz); omega), m3.below B2.out (Nat.le_refl _) B2.out.size⟩)
  rw [← hbn]
  clear O3 hb1 hb2 k3 m3 hbn K2 B2 HO2 HV HML HIA HLL
  go_wp2_with fail
  refine S3.out.plan.mono ?_
  rintro e w4 ⟨res, rf, er, sh, vr, rfl, hp, hsh, OR, B4⟩
  have HSN := Lib.hid (fun (W : World) => sane17_any W)
  have BS := box1W w4 (.cells (cellsH sh).toArray 43)
  have B45 := B4.trans (BS.mono B4.size)
  have S5 := Lib.hid (S3.out.below B45)
  have HOR := Lib.hid (OR.below BS)
  have HSH := Lib.hid hsh
  have HP := Lib.hid hp
  obtain ⟨jA, jn, jc, wt, st, vA, vn, vc, uA, un, uc, kA, kn, kc⟩ := sh
  have Y5 := Lib.hid (show AB 43 (w4.alloc (.cells #[.slice jA jn jc, .int .i64 wt, .int .i64 st, .slice vA vn vc, .slice uA un uc, .slice kA kn kc] 43)) w4.heap.size [.slice jA jn jc, .int .i64 wt, .int .i64 st, .slice vA vn vc, .slice uA un uc, .slice kA kn kc] from AB.new w4 [.slice jA jn jc, .int .i64 wt, .int .i64 st, .slice vA vn vc, .slice uA un uc, .slice kA kn kc] 43 w4.heap.size rfl)
  have HB4 := Lib.hid BS
  clear hp hsh OR B4 BS B45 S3
  obtain ⟨rA, rc, rfl, -, -, -, -⟩ := HOR.out.slice
  obtain ⟨rn, hrn⟩ : ∃ n, n = rf.length := ⟨_, rfl⟩
  have HRN := Lib.hid hrn
  rw [← hrn] at HOR ⊢
  clear hrn
  go_upto_region 4 with fail
  obtain ⟨y, hy⟩ : ∃ y, y = w4.heap.size := ⟨_, rfl⟩
  rw [← hy] at Y5 ⊢
  change Hid (L17 w (w4.alloc (.cells #[.slice jA jn jc, .int .i64 wt, .int .i64 st, .slice vA vn vc, .slice uA un uc, .slice kA kn kc] 43)) IA ic L l TA tc bn b) at S5
  change Hid (Below w4.heap.size w4 (w4.alloc (.cells #[.slice jA jn jc, .int .i64 wt, .int .i64 st, .slice vA vn vc, .slice uA un uc, .slice kA kn kc] 43))) at HB4
  change Hid (Own .i64 3 (w4.alloc (.cells #[.slice jA jn jc, .int .i64 wt, .int .i64 st, .slice vA vn vc, .slice uA un uc, .slice kA kn kc] 43)) w3.heap.size (.slice rA rn rc) rf) at HOR
  generalize w4.alloc (.cells #[.slice jA jn jc, .int .i64 wt, .int .i64 st, .slice vA vn vc, .slice uA un uc, .slice kA kn kc] 43) = w5 at *
  clear hy
  rcases HP.out with ⟨h0, rfl, rfl, h1⟩ | ⟨h0, q, hq, hpr⟩
  · have h15 : er = 15 := h1.trans ((solE_cases S5.out.val).resolve_left h0)
    subst h15
    clear h0 h1
    go_wp2_with fail
    refine (HSN.out _).mono ?_
    rintro e w6 ⟨rfl, B6⟩
    have HB := Lib.hid (S5.out.bel.trans (B6.mono S5.out.bel.size))
    clear B6
    go_wp2_with fail
    go_ret
    exact ⟨rfl, HB.out⟩
  · have HE := Lib.hid h0
    have HQ := Lib.hid hq
    rcases plan_cases hq S5.out.trk hpr with ⟨i, s, tk, hi, hn, hsc, rfl, rfl, rfl, -, hf, -⟩ | ⟨rfl, rfl, hn, s, hs0, hsc, hrf⟩
    · have HS := Lib.hid (show ShSome l w4 w3.heap.size ⟨jA, jn, jc, wt, st, vA, vn, vc, uA, un, uc, kA, kn, kc⟩ s tk from HSH.out)
      have hrn0 : rn = 0 := by rw [HRN.out]; rfl
      subst hrn0
      obtain ⟨e1, e2, e3, r1, r2, r3, r4⟩ := HS.out
      simp only at e1 e2 e3 r1 r2 r3 r4
      have q2 := own_read (r2.below HB4.out)
      have q3 := own_read (r3.below HB4.out)
      have q4 := own_read (r4.below HB4.out)
      have HCK := Lib.hid (pcheck_any l s.v s.ch b tk ⟨jA, jn, jc, wt, st, vA, vn, vc, uA, un, uc, kA, kn, kc⟩ TA bn tc e3 q2.1 q3.1 q4.1 S5.out.blen q2.2.2 q3.2.2 q4.2.2 (by have := S5.out.b32; have := S5.out.blen; unfold maxLen; omega) w5 (r1.below HB4.out) q2.2.1 q3.2.1 q4.2.1 S5.out.trow)
      simp only at HCK
      have hck : ckE l wt st s.v s.ch b tk = 0 := by rw [e1, e2]; exact ck_ok hsc hf
      rw [hck] at HCK
      have HR1 := Lib.hid (r1.below HB4.out)
      have HGI := Lib.hid (fun (W : World) (k : Below w5.heap.size w5 W) => gitems_same l jA IA L jc ic S5.out.len W (HR1.out.below k) (S5.out.irow.below k))
      have HJN := Lib.hid (show jn = L by rw [e3, S5.out.len])
      obtain rfl : L = jn := HJN.out.symm
      clear hck e1 e2 e3 r1 r2 r3 r4 q2 q3 q4 hi hn hsc hf hq h0 hpr HS HR1
      have y0 := Y5.out.cell 0 (u := .slice jA L jc) rfl
      have y1 := Y5.out.cell 1 (u := .int .i64 wt) rfl
      have y2 := Y5.out.cell 2 (u := .int .i64 st) rfl
      have y3 := Y5.out.cell 3 (u := .slice vA vn vc) rfl
      have y4 := Y5.out.cell 4 (u := .slice uA un uc) rfl
      have y5 := Y5.out.cell 5 (u := .slice kA kn kc) rfl
      go_wp2_with fail
      refine HCK.out.mono ?_
      rintro e w6 ⟨rfl, B6⟩
      have HB6 := Lib.hid B6
      have y0 := (Y5.out.below B6 Y5.out.lt).cell 0 (u := .slice jA L jc) rfl
      clear y1 y2 y3 y4 y5 B6
      go_wp2_with fail
      refine (HGI.out w6 HB6.out).mono ?_
      rintro e w7 ⟨rfl, nd, hw7⟩
      have HB7 := Lib.hid (show Below w5.heap.size w5 w7 by rw [hw7]; exact bdn HB6.out)
      clear hw7 y0
      go_wp2_with fail
      refine (HSN.out _).mono ?_
      rintro e w8 ⟨rfl, B8⟩
      have B9 := HB7.out.trans (B8.mono HB7.out.size)
      have HB := Lib.hid (S5.out.bel.trans (B9.mono S5.out.bel.size))
      clear B8 B9
      go_wp2_with fail
      go_ret
      exact ⟨rfl, HB.out⟩
    · have HS0 := Lib.hid hs0
      have HSC := Lib.hid hsc
      have HRF := Lib.hid hrf
      have HSH0 := Lib.hid (schemes_any l IA ic L S5.out.len w5 S5.out.irow)
      clear h0 hq hpr hn hs0 hsc hrf Y5 HSH
      go_wp2_with fail
      refine HSH0.out.mono ?_
      rintro e w6 (⟨g0, rfl, B6⟩ | ⟨-, v6, q', rfl, hq', O6, B6⟩)
      · exact absurd HE.out g0
      · obtain rfl := hq'.uniq HQ.out
        have S6 := Lib.hid (S5.out.below B6)
        have OR6 := Lib.hid (HOR.out.below B6)
        obtain ⟨QA, qc, rfl, RR⟩ := O6.slice
        have HRR := Lib.hid RR
        obtain ⟨qn, hqn⟩ : ∃ n, n = q'.length := ⟨_, rfl⟩
        have hq0 : ((qn : Int) == 0) = false := by
          have := (List.getElem?_eq_some_iff.1 HS0.out).1
          simp; omega
        rw [← hqn]
        have hqp : (0 : Int) < (qn : Int) := by
          have := (List.getElem?_eq_some_iff.1 HS0.out).1
          omega
        obtain ⟨ad, rfl, CX⟩ := HRR.out.at_ HS0.out
        have c0 : w6.cell? (ad.add (0 * 4)) = some (.int .i64 s.wt) := CX.first rfl
        have ea : ad.add (0 * 4) = ad := by unfold Addr.add; simp
        rw [ea] at c0
        have HMK := Lib.hid (fun (W : World) (k : Below w6.heap.size w6 W) => make_any l IA ic L s.wt S6.out.len W (S6.out.irow.below k))
        have HLD := Lib.hid (fun (st : Int) (v : List Int) (vA : Option Addr) (vn vc : Nat) (hn : vn = v.length) (hm : v.length ≤ maxLen) (W : World) (k : Below w6.heap.size w6 W) (hp : Row .i64 W W.heap.size vA v) => loads_any l IA ic L s.wt st v vA vn vc S6.out.len hn W (S6.out.irow.below k) hp hm)
        obtain ⟨swt, sst, smv, spu, sv, sch⟩ := s
        simp only at c0 HMK HLD
        clear O6 RR hq' B6 CX ea S5 HOR HSH0 hqn HE
        have BJ := Lib.hid (box1W w6 (.cells #[.slice IA L ic, .int .i64 swt] 37))
        have J7 := Lib.hid (JBox.new (w := w6) (A := IA) (n := L) (c := ic) (wt := swt) w6.heap.size rfl)
        go_upto_region 13 with fail
        obtain ⟨jb, hjb⟩ : ∃ y, y = w6.heap.size := ⟨_, rfl⟩
        rw [← hjb] at J7 ⊢
        generalize w6.alloc (.cells #[.slice IA L ic, .int .i64 swt] 37) = w7 at *
        clear hjb c0
        obtain ⟨j0, j1, jl⟩ := J7.out
        go_wp2_with fail
        refine (HMK.out w7 BJ.out).mono ?_
        rintro e w8 ⟨st, vA, vn, vc, uA, un, uc, er, v, ch, rfl, OV, OU, B8, hr⟩
        obtain ⟨rfl, rfl, rfl, rfl⟩ := hr.uniq HSC.out.1
        have BX := box1W w8 (qcells st vA vn vc uA un uc)
        have B79 := B8.trans (BX.mono B8.size)
        have J9 := Lib.hid (J7.out.below B79 J7.out.lt)
        have Q9 := Lib.hid (QBox.new (w := w8) (st := st) (A := vA) (n := vn) (c := vc) (B := uA) (m := un) (d := uc) w8.heap.size rfl)
        have HB9 := Lib.hid (BJ.out.trans (B79.mono BJ.out.size))
        have OV9 := Lib.hid (OV.below BX)
        clear j0 j1 jl J7 OV OU B8 hr BX B79 BJ HMK
        go_upto_region 14 with fail
        obtain ⟨g, hg⟩ : ∃ g, g = w8.heap.size := ⟨_, rfl⟩
        rw [← hg] at Q9 ⊢
        generalize w8.alloc (qcells st vA vn vc uA un uc) = w9 at *
        clear hg
        have hov := own_read OV9.out
        have HLC := Lib.hid (HLD.out st v vA vn vc hov.1 hov.2.2 w9 HB9.out hov.2.1)
        rw [(scr_loads HSC.out b).1] at HLC
        clear hov HLD
        obtain ⟨j0, j1, jl⟩ := J9.out
        obtain ⟨q0, q1, q2, qf, ql⟩ := Q9.out
        clear qf
        go_wp2_with fail
        refine HLC.out.mono ?_
        rintro e w10 ⟨lv, rfl, OL, B10⟩
        have HB10 := Lib.hid (HB9.out.trans (B10.mono HB9.out.size))
        have HOL := Lib.hid OL
        clear j0 j1 jl q0 q1 q2 ql J9 Q9 OV9 HB9 OL B10 HLC
        obtain ⟨lA, lc, rfl, -, -, -, -⟩ := HOL.out.slice
        obtain ⟨ln, hln⟩ : ∃ m, m = (loadL l swt st v).length := ⟨_, rfl⟩
        have hrd := own_read HOL.out
        have hro := own_read (OR6.out.below HB10.out)
        have HRC := Lib.hid (show Calls Tryz.prog 35 #[.slice lA ln lc, .slice TA bn tc, .slice rA rn rc] w10 (fun e w' => e = .returned (.bool true) ∧ Below w10.heap.size w10 w') from by
          have hc := refuses_any (loadL l swt st v) b rf lA TA rA lc tc rc w10 hrd.2.1 hrd.2.2 (S6.out.trow.below HB10.out) (by have := S6.out.b32; have := S6.out.blen; unfold maxLen; omega) hro.2.1 hro.2.2
          rw [← hln, ← S6.out.blen, ← HRN.out] at hc
          refine hc.mono ?_
          rintro e w' ⟨he, hb⟩
          exact ⟨by rw [he]; exact congrArg _ (congrArg _ HRF.out), hb⟩)
        rw [← hln]
        clear hln hrd hro HOL
        go_wp2_with fail
        refine HRC.out.mono ?_
        rintro e w11 ⟨rfl, B11⟩
        have HB11 := Lib.hid (HB10.out.trans (B11.mono HB10.out.size))
        clear B11 HRC
        go_wp2_with fail
        refine (HSN.out _).mono ?_
        rintro e w12 ⟨rfl, B12⟩
        have B13 := HB11.out.trans (B12.mono HB11.out.size)
        have HB := Lib.hid (S6.out.bel.trans (B13.mono S6.out.bel.size))
        clear B12 B13
        go_wp2_with fail
        go_ret
        exact ⟨rfl, HB.out⟩
theorem proved_law (a : Option Addr) (len cap : Nat) (zs : List Int) (w : World) (h : IsRow .i64 w a len cap zs) : Calls Tryz.prog 6 #[.slice a len cap] w fun e w' => e = .returned (.bool true) ∧ Below w.heap.size w w' := by
  obtain ⟨l, rfl, hr, hm, hw⟩ := h.row
  exact proved_walk a cap l w hr hm hw
end Go.Proofs.YtimkmieohkefiaaGreat
