/-
  Stage 17: the walk of PlannerDelivers.
-/
import Derived.Test.YtimkmieohkefiaaGreatZGVp
import Derived.Test.YtimkmieohkefiaaGreatZGW
set_option linter.unusedSimpArgs false
set_option linter.unusedVariables false
namespace Go.Proofs.YtimkmieohkefiaaGreat
open Go.RowKit Go.Lib

theorem tnT_le {l : List It} {wt : Int} {S : Nat} {v : List Int} (h : Pl l wt S v) : tnT l ≤ 16 := by
  have := (tcI_bd (valid_ok h.val).2.1 l.length (Nat.le_refl _)).1
  unfold tnT; omega
set_option maxRecDepth 100000 in
set_option maxHeartbeats 25600000 in
theorem deliv_walk (A : Option Addr) (c : Nat) (zs : List Int) (w : World) (hr : Row .i64 w w.heap.size A zs) (hm : zs.length ≤ maxLen) (hw : ∀ n ∈ zs, (Lit.int .i64 n).wf = true) :
    Calls Tryz.prog 8 #[.slice A zs.length c] w fun e w' => e = .returned (.bool true) ∧ Below w.heap.size w w' := by
  have K := Lib.hid (mk_row (c := c) (T := 90) hr hm hw)
  have B := Lib.hid ((Below.refl w.heap.size w).alloc (Nat.le_refl _) (.cells #[.slice A zs.length c, .int .i64 0] 90))
  clear hr hw
  go_enter Tryz.func8, Tryz.ntmps8
  go_wp2_with fail
  refine (new_any A zs.length c w).mono ?_
  rintro e w1 ⟨rfl, hw1⟩
  rw [← hw1] at K B
  clear hw1 hm
  go_wp2_with fail
  refine (mitems_any w.heap.size 0 12 w1 K.out (by omega) (by omega)).mono ?_
  rintro e w2 ⟨v2, l, rfl, O2, hl, hru, k2, m2⟩
  obtain ⟨IA, ic, rfl, -, hIA⟩ := O2.args
  have HO2 := Lib.hid O2
  have HV := Lib.hid (show validR l 0 = 0 from valid_of (by omega) hru (by decide))
  have B2 := Lib.hid (m2.below B.out (Nat.le_refl _) B.out.size)
  have K2 := Lib.hid k2
  have HML := Lib.hid K.out.lt
  obtain ⟨L, hL⟩ : ∃ n, n = l.length := ⟨_, rfl⟩
  have HLL := Lib.hid (And.intro hL hl)
  rw [← hL] at hIA ⊢
  have HIA := Lib.hid hIA
  clear K B O2 hru k2 m2 hIA hL hl
  go_wp2_with fail
  refine (tracks_any w.heap.size _ w2 K2.out (by omega)).mono ?_
  rintro e w3 ⟨v3, b, rfl, O3, hb1, hb2, k3, m3⟩
  obtain ⟨TA, tc, rfl, -, -, -, -⟩ := O3.slice
  obtain ⟨bn, hbn⟩ : ∃ n, n = b.length := ⟨_, rfl⟩
  have S3 := Lib.hid (show L17 w w3 IA ic L l TA tc bn b from ⟨HLL.out.1, HIA.out, HV.out, hbn, by omega, (HO2.out.moves m3 HML.out).irow, (own_read O3).2.1, trk_ok (by omega) (fun z hz => by have := trkL_bd (hb2 z hz); omega), m3.below B2.out (Nat.le_refl _) B2.out.size⟩)
  rw [← hbn]
  clear O3 hb1 hb2 k3 m3 hbn K2 B2 HO2 HV HML HIA HLL
  go_wp2_with fail
  refine S3.out.plan.mono ?_
  rintro e w4 ⟨res, rf, er, sh, vr, rfl, hp, hsh, OR, B4⟩
  have HSN := Lib.hid (fun (W : World) => sane17_any W)
  have BS := box1W w4 (.cells (cellsH sh).toArray 43)
  have B45 := B4.trans (BS.mono B4.size)
  have S5 := Lib.hid (S3.out.below B45)
  have HSH := Lib.hid hsh
  have HP := Lib.hid hp
  obtain ⟨jA, jn, jc, wt, st, vA, vn, vc, uA, un, uc, kA, kn, kc⟩ := sh
  have Y5 := Lib.hid (show AB 43 (w4.alloc (.cells #[.slice jA jn jc, .int .i64 wt, .int .i64 st, .slice vA vn vc, .slice uA un uc, .slice kA kn kc] 43)) w4.heap.size [.slice jA jn jc, .int .i64 wt, .int .i64 st, .slice vA vn vc, .slice uA un uc, .slice kA kn kc] from AB.new w4 [.slice jA jn jc, .int .i64 wt, .int .i64 st, .slice vA vn vc, .slice uA un uc, .slice kA kn kc] 43 w4.heap.size rfl)
  have HB4 := Lib.hid BS
  obtain ⟨rA, rc, rfl, -, -, -, -⟩ := OR.slice
  obtain ⟨rn, hrn⟩ : ∃ n, n = rf.length := ⟨_, rfl⟩
  rw [← hrn]
  clear hp hsh OR B4 BS B45 S3 hrn
  go_upto_region 4 with fail
  obtain ⟨y, hy⟩ : ∃ y, y = w4.heap.size := ⟨_, rfl⟩
  rw [← hy] at Y5 ⊢
  change Hid (L17 w (w4.alloc (.cells #[.slice jA jn jc, .int .i64 wt, .int .i64 st, .slice vA vn vc, .slice uA un uc, .slice kA kn kc] 43)) IA ic L l TA tc bn b) at S5
  change Hid (Below w4.heap.size w4 (w4.alloc (.cells #[.slice jA jn jc, .int .i64 wt, .int .i64 st, .slice vA vn vc, .slice uA un uc, .slice kA kn kc] 43))) at HB4
  generalize w4.alloc (.cells #[.slice jA jn jc, .int .i64 wt, .int .i64 st, .slice vA vn vc, .slice uA un uc, .slice kA kn kc] 43) = w5 at *
  clear hy
  rcases HP.out with ⟨h0, rfl, rfl, h1⟩ | ⟨h0, q, hq, hpr⟩
  · have h15 : er = 15 := h1.trans ((solE_cases S5.out.val).resolve_left h0)
    subst h15
    clear h0 h1
    go_wp2_with fail
    refine (HSN.out _).mono ?_
    rintro e w6 ⟨rfl, B6⟩
    have HB := Lib.hid (S5.out.bel.trans (B6.mono S5.out.bel.size))
    clear B6
    go_wp2_with fail
    go_ret
    exact ⟨rfl, HB.out⟩
  · rcases plan_cases hq S5.out.trk hpr with ⟨i, s, tk, hi, hn, hsc, rfl, rfl, rfl, has, hf, -⟩ | ⟨rfl, rfl, hn, s, hs0, hsc, hrf⟩
    · have HS := Lib.hid (show ShSome l w4 w3.heap.size ⟨jA, jn, jc, wt, st, vA, vn, vc, uA, un, uc, kA, kn, kc⟩ s tk from HSH.out)
      have HSC := Lib.hid hsc
      have HAS := Lib.hid has
      obtain ⟨e1, e2, e3, r1, r2, r3, r4⟩ := HS.out
      simp only at e1 e2 e3 r1 r2 r3 r4
      obtain ⟨hv, h14, S, hS, hpl⟩ := make_pl hsc.1
      have HE1 := Lib.hid e1
      have HSS := Lib.hid hS
      obtain rfl : st = (S : Int) := by rw [e2, hS]
      have H14 := Lib.hid (show val14 l wt (S : Int) s.v = 0 by rw [e1, ← hS]; exact h14)
      have HPL := Lib.hid hpl
      have q2 := own_read (r2.below HB4.out)
      have q4 := own_read (r4.below HB4.out)
      obtain ⟨T, hT⟩ : ∃ n, n = tnT l := ⟨_, rfl⟩
      have HT := Lib.hid hT
      have hS12 := hpl.s12
      have hT16 : T ≤ 16 := by rw [hT]; exact tnT_le hpl
      obtain rfl : L = jn := by rw [e3, S5.out.len]
      have HTK := Lib.hid (show tk.length = S + T from by rw [has.len, ld_of hsc hS, toZ_len, ldN_len, hT])
      obtain rfl : kn = S + T := by rw [q4.1, HTK.out]
      have HI := Lib.hid (r1.below HB4.out)
      have HVR := Lib.hid q2
      have HKR := Lib.hid q4
      have HRC := Lib.hid (fun (W : World) (k : Below w5.heap.size w5 W) => run_any l jA jc L wt (S : Int) s.v vA vn vc S5.out.len q2.1 W (HI.out.below k) (q2.2.1.below k) q2.2.2)
      have HCC := Lib.hid (fun (t : Int) (W : World) (k : Below w5.heap.size w5 W) => cont_any l jA jc L wt (S : Int) s.v vA vn vc t S5.out.len q2.1 W (HI.out.below k) (q2.2.1.below k) q2.2.2)
      clear e1 e2 e3 r1 r2 r3 r4 q2 q4 hi hn hsc hf hq h0 hpr HS hv h14 hS hpl has HB4 HSH HP hT
      have y0 := Y5.out.cell 0 (u := .slice jA L jc) rfl
      have y1 := Y5.out.cell 1 (u := .int .i64 wt) rfl
      have y2 := Y5.out.cell 2 (u := .int .i64 (S : Int)) rfl
      have y3 := Y5.out.cell 3 (u := .slice vA vn vc) rfl
      go_wp2_with fail
      refine (HRC.out w5 (Below.refl _ _)).mono ?_
      rintro e w6 (⟨g1, _⟩ | ⟨_, S', gt, hS', hpl', rfl, C⟩)
      · exact absurd H14.out g1
      · obtain rfl : S' = S := by omega
        rw [← HT.out]
        obtain ⟨mv, hmv⟩ : ∃ m : Int, m = (mM S' l.length (cdN s.v) (rdN l) (S' + 1) : Int) := ⟨_, rfl⟩
        rw [← hmv]
        have BY := box1W w6 (.cells #[.slice (some ⟨gt, 0, none⟩) T T, .int .i64 mv] 79)
        have B57 := C.bel.trans (BY.mono C.bel.size)
        have Y7 := Lib.hid (Y5.out.below B57 Y5.out.lt)
        have Z7 := Lib.hid (show AB 79 (w6.alloc (.cells #[.slice (some ⟨gt, 0, none⟩) T T, .int .i64 mv] 79)) w6.heap.size [.slice (some ⟨gt, 0, none⟩) T T, .int .i64 mv] from AB.new w6 [.slice (some ⟨gt, 0, none⟩) T T, .int .i64 mv] 79 w6.heap.size rfl)
        have R7 := Lib.hid B57
        have PP7 := Lib.hid (C.pp.below BY)
        clear hmv BY B57 C hS' hpl' HRC y0 y1 y2 y3 Y5
        go_upto_region 7 with fail
        obtain ⟨z, hz⟩ : ∃ z, z = w6.heap.size := ⟨_, rfl⟩
        rw [← hz] at Z7 ⊢
        generalize w6.alloc (.cells #[.slice (some ⟨gt, 0, none⟩) T T, .int .i64 mv] 79) = w7 at *
        clear hz
        have y0 := Y7.out.cell 0 (u := .slice jA L jc) rfl
        have y1 := Y7.out.cell 1 (u := .int .i64 wt) rfl
        have z0 := Z7.out.cell 0 (u := .slice (some ⟨gt, 0, none⟩) T T) rfl
        have HSO := Lib.hid (show Calls Tryz.prog 38 #[jv jA L jc wt, .slice (some ⟨gt, 0, none⟩) T T] w7 (fun e w' => e = .returned (.tuple #[.bool true, .int .i64 0]) ∧ Below w7.heap.size w7 w') from by
          have hml : ((mT S' l.length (tnT l) (cdN s.v) (rdN l) (tnN l) (S' + 1)).map toZ).length = T := by rw [List.length_map, mT_len, HT.out]
          have hc := sorted_any l jA jc wt _ (some ⟨gt, 0, none⟩) T w7 (HI.out.below R7.out) PP7.out (by rw [hml]; unfold maxLen; omega)
          have hso := sorts_ok HSC.out HSS.out
          rw [← HE1.out] at hso
          rw [hso, hml, ← S5.out.len] at hc
          exact hc)
        go_wp2_with fail
        refine HSO.out.mono ?_
        rintro e w8 ⟨rfl, B8⟩
        have Y8 := Lib.hid (Y7.out.below B8 Y7.out.lt)
        have Z8 := Lib.hid (Z7.out.below B8 Z7.out.lt)
        have R8 := Lib.hid (R7.out.trans (B8.mono R7.out.size))
        clear y0 y1 z0 B8 Y7 Z7 R7 PP7 HSO
        have y2 := Y8.out.cell 2 (u := .int .i64 (S' : Int)) rfl
        have y5 := Y8.out.cell 5 (u := .slice kA (S' + T) kc) rfl
        have z0 := Z8.out.cell 0 (u := .slice (some ⟨gt, 0, none⟩) T T) rfl
        obtain ⟨N, hN⟩ : ∃ n, n = S' + T := ⟨_, rfl⟩
        have hN28 : N ≤ 28 := by omega
        rw [← hN] at y5
        have hNS : ((N : Int) != (S' : Int) + (T : Int)) = false := by simp; omega
        have HNN := Lib.hid hN
        clear hN
        go_wp2_with fail
        clear y2 y5 z0
        go_loopw [13] (fun iv wr => ∃ k : Nat, k ≤ S' + 1 ∧ iv = .int .i64 (k : Int) ∧ Hid (Below w8.heap.size w8 wr)) (fun iv _ => S' + 1 - (intOf iv).toNat)
        case atStart => exact ⟨0, Nat.zero_le _, rfl, Lib.hid (Below.refl _ _)⟩
        case round =>
          obtain ⟨k, hk, rfl, HR⟩ := hrel
          have Y9 := Lib.hid (Y8.out.below HR.out Y8.out.lt)
          have R9 := Lib.hid (R8.out.trans (HR.out.mono R8.out.size))
          have y0 := Y9.out.cell 0 (u := .slice jA L jc) rfl
          have y1 := Y9.out.cell 1 (u := .int .i64 wt) rfl
          have y2 := Y9.out.cell 2 (u := .int .i64 (S' : Int)) rfl
          have y3 := Y9.out.cell 3 (u := .slice vA vn vc) rfl
          by_cases hlt : k ≤ S'
          · have HLT := Lib.hid hlt
            have HC0 := Lib.hid (HCC.out (k : Int) wr R9.out)
            go_wp2_with fail
            refine HC0.out.mono ?_
            rintro e wa (⟨g1, _⟩ | ⟨_, S2, n2, gs, g2, base, hS2, hn2, hle2, hpl2, rfl, C2⟩)
            · exact absurd (show contE l wt (S' : Int) s.v (k : Int) = 0 by unfold contE; rw [if_pos H14.out, if_neg (by omega)]) g1
            · obtain rfl : S2 = S' := by omega
              obtain rfl : n2 = k := by omega
              rw [← HT.out]
              obtain ⟨X1, hX1⟩ : ∃ X : List (List Int), X = (mS S2 l.length (cdN s.v) (rdN l) (n2 + 1)).map toZ := ⟨_, rfl⟩
              obtain ⟨X2, hX2⟩ : ∃ X : List (List Int), X = (mT S2 l.length (tnT l) (cdN s.v) (rdN l) (tnN l) (n2 + 1)).map toZ := ⟨_, rfl⟩
              have PA := Lib.hid C2.two.pps
              have PB := Lib.hid C2.two.ppt
              have Ba := Lib.hid C2.bel
              have LA := Lib.hid (show S2 = X1.length by rw [hX1, List.length_map, mS_len])
              have LB := Lib.hid (show T = X2.length by rw [hX2, List.length_map, mT_len, HT.out])
              rw [← hX1] at PA
              rw [← hX2] at PB
              have HXX := Lib.hid (show ([] ++ X1) ++ X2 = (atT l S2 s.v n2).map toZ by rw [List.nil_append, hX1, hX2, ← List.map_append]; rfl)
              have HXN := Lib.hid (show (([] ++ X1) ++ X2).length = N by rw [List.nil_append, List.length_append, ← LA.out, ← LB.out, HNN.out])
              clear C2 hS2 hn2 hle2 hpl2 HC0 y0 y1 y2 y3 hX1 hX2
              go_wp2_with (first
                | (at_builtin; refine wpList_cat rfl (.tmp 108) (.tmp 109) rfl _ [] rfl (CL.nil wa) (some ⟨gs, 0, none⟩) S2 S2 X1 LA.out rfl (fun h => by cases h) PA.out (by simp; omega) ?_; intro v1 wb Cb; have CB := Lib.hid Cb; clear Cb)
                | (at_builtin; go_loud (refine wpList_cat rfl (.tmp 110) (.tmp 111) rfl _ _ rfl CB.out (some ⟨g2, 0, none⟩) T T X2 LB.out rfl (fun h => by cases h) PB.out (by rw [List.nil_append, ← LA.out]; omega) ?_; intro v2 wc Cc; obtain ⟨cA, cc, rfl, hat⟩ := Cc.at_; have CC := Lib.hid Cc.bel; have HAT := Lib.hid hat; rw [HXN.out]; clear Cc hat CB)))
              have RC := Lib.hid (R9.out.trans ((Ba.out.trans (CC.out.mono Ba.out.size)).mono R9.out.size))
              have BC := Lib.hid (HR.out.trans ((Ba.out.trans (CC.out.mono Ba.out.size)).mono HR.out.size))
              have YC := Lib.hid (Y8.out.below BC.out Y8.out.lt)
              clear Y9 R9 PA PB Ba CC LA LB HR
              go_loopw [114] (fun iv wr => ∃ k : Nat, k ≤ N ∧ iv = .int .i64 (k : Int) ∧ Hid (Below wc.heap.size wc wr)) (fun iv _ => N - (intOf iv).toNat)
              case atStart => exact ⟨0, Nat.zero_le _, rfl, Lib.hid (Below.refl _ _)⟩
              case round =>
                obtain ⟨k2, hk2, rfl, HR2⟩ := hrel
                by_cases hlt2 : k2 < N
                · obtain ⟨p, hp⟩ : ∃ p, (atT l S2 s.v n2)[k2]? = some p := ⟨_, List.getElem?_eq_getElem (by rw [atT_len, ← HT.out, ← HNN.out]; exact hlt2)⟩
                  obtain ⟨ad, rfl, hb, a, ac, hcell, hrow, -⟩ := HAT.out k2 (toZ p) (by rw [HXX.out, List.getElem?_map, hp]; rfl)
                  obtain ⟨t1, t2, t3, t4, t5⟩ := tr_ok HSC.out HSS.out HAS.out HLT.out hp
                  obtain ⟨pn, hpn⟩ : ∃ n, n = p.length := ⟨_, rfl⟩
                  rw [toZ_len, ← hpn] at hcell
                  rw [← hpn] at t2
                  have HT1 := Lib.hid t1
                  have HT3 := Lib.hid t3
                  have HT4 := Lib.hid t4
                  have HT5 := Lib.hid t5
                  have HPN := Lib.hid hpn
                  have HLT2 := Lib.hid hlt2
                  have c1 := (HR2.out.cell (p := ad.add k2) (by rw [add_block]; exact hb)).trans hcell
                  have HW := Lib.hid (hrow.below HR2.out)
                  clear hp hb hcell hrow t1 t3 t4 t5 hpn
                  go_wp2_with fail
                  clear c1
                  generalize wr = w1' at *
                  go_loopw [19, 121] (fun nv iv wr => ∃ j : Nat, j ≤ pn ∧ iv = .int .i64 (j : Int) ∧ nv = .int .i64 ((sumW l (p.take j) : Nat) : Int) ∧ Hid (Below w1'.heap.size w1' wr)) (fun _ iv _ => pn - (intOf iv).toNat)
                  case atStart => exact ⟨0, Nat.zero_le _, rfl, rfl, Lib.hid (Below.refl _ _)⟩
                  case round =>
                    obtain ⟨j, hj, rfl, rfl, HR3⟩ := hrel
                    have B3 := Lib.hid (HR2.out.trans (HR3.out.mono HR2.out.size))
                    have SI := Lib.hid (S5.out.below (RC.out.trans (B3.out.mono RC.out.size)))
                    have hsm : sumW l (p.take j) ≤ 38400 := Nat.le_trans (sumW_le j) HT3.out
                    by_cases hlt3 : j < pn
                    · obtain ⟨x, hx⟩ : ∃ x, p[j]? = some x := ⟨_, List.getElem?_eq_getElem (by rw [← HPN.out]; exact hlt3)⟩
                      have hxl := HT1.out x (List.mem_of_getElem? hx)
                      obtain ⟨ad2, rfl, hb2, hc2⟩ := (HW.out.below HR3.out) j (by rw [toZ_len, ← HPN.out]; exact hlt3)
                      rw [show (toZ p).getD j 0 = (x : Int) by unfold toZ; rw [List.getD_eq_getElem?_getD, List.getElem?_map, hx]; rfl] at hc2
                      obtain ⟨ia, rfl, IC⟩ := SI.out.irow.at_ x hxl
                      have D := IC.spelt
                      have hln := (HPL.out.ln hxl)
                      have HSX := Lib.hid (sumW_succ (l := l) hx)
                      obtain ⟨ln, hln0⟩ : ∃ n, n = lnN l x := ⟨_, rfl⟩
                      rw [← hln0] at hln HSX
                      obtain ⟨it, hit⟩ : ∃ z, z = l.getD x it0 := ⟨_, rfl⟩
                      rw [← hit] at hln D
                      obtain ⟨x0, x1, x2, x3⟩ := it
                      obtain ⟨c0, c1, c2, c3⟩ := D
                      obtain ⟨h3a, h3b⟩ := hln
                      simp only at h3a
                      subst h3a
                      have hxL : x < L := by rw [S5.out.len]; exact hxl
                      obtain ⟨sm, hsm0⟩ : ∃ n, n = sumW l (p.take j) := ⟨_, rfl⟩
                      rw [← hsm0] at hsm HSX ⊢
                      clear hb2 hx hxl IC hit hln0 hsm0 c0 c1 c2
                      go_wp2_with fail
                      go_roundw
                      case rel => exact ⟨j + 1, by omega, by go_num, by rw [HSX.out]; go_num, HR3⟩
                      case measure => simp [intOf]; omega
                    · obtain rfl : j = pn := by omega
                      rw [show p.take j = p from List.take_of_length_le (by rw [← HPN.out]; exact Nat.le_refl _)] at hsm ⊢
                      obtain ⟨sm, hsm0⟩ : ∃ n, n = sumW l p := ⟨_, rfl⟩
                      rw [← hsm0] at hsm HT5 ⊢
                      have YY := Lib.hid (YC.out.below B3.out YC.out.lt)
                      have y5 := YY.out.cell 5 (u := .slice kA (S2 + T) kc) rfl
                      rw [← HNN.out] at y5
                      clear hsm0
                      by_cases h0 : 0 < sm
                      · obtain ⟨yy, hy1, hy2, hy3⟩ := HT5.out h0
                        obtain ⟨kad, rfl, -, kc1⟩ := (HKR.out.2.1.below (RC.out.trans (B3.out.mono RC.out.size))) k2 HT4.out
                        rw [show tk.getD k2 0 = (yy : Int) by rw [← hy1, List.getD_eq_getElem?_getD, List.getD_eq_getElem?_getD, List.getElem?_eq_getElem HT4.out]; rfl] at kc1
                        obtain ⟨bad, rfl, -, bc1⟩ := SI.out.trow yy hy2
                        have hyb : yy < bn := by rw [S5.out.blen]; exact hy2
                        obtain ⟨bv, hbv⟩ : ∃ z, z = b.getD yy 0 := ⟨_, rfl⟩
                        rw [← hbv] at hy3 bc1
                        have hlt2 := HLT2.out
                        clear hbv hy1 hy2
                        go_wp2_with fail
                        go_roundw
                        case rel => exact ⟨k2 + 1, by omega, by go_num, B3⟩
                        case measure => simp [intOf]; omega
                      · obtain rfl : sm = 0 := by omega
                        go_wp2_with fail
                        go_roundw
                        case rel => exact ⟨k2 + 1, by omega, by go_num, B3⟩
                        case measure => simp [intOf]; omega
                · go_wp2_with fail
                  go_roundw
                  case rel => exact ⟨n2 + 1, by omega, by go_num, Lib.hid (BC.out.trans (HR2.out.mono BC.out.size))⟩
                  case measure => simp [intOf]; omega
          · go_wp2_with fail
            refine (HSN.out _).mono ?_
            rintro e w9 ⟨rfl, Bz⟩
            have HB := Lib.hid (S5.out.bel.trans ((R9.out.trans (Bz.mono R9.out.size)).mono S5.out.bel.size))
            clear Bz
            go_wp2_with fail
            go_ret
            exact ⟨rfl, HB.out⟩
    · clear hq h0 hpr hn hs0 hsc hrf Y5 HSH HP
      go_wp2_with fail
      refine (HSN.out _).mono ?_
      rintro e w6 ⟨rfl, B6⟩
      have HB := Lib.hid (S5.out.bel.trans (B6.mono S5.out.bel.size))
      clear B6
      go_wp2_with fail
      go_ret
      exact ⟨rfl, HB.out⟩
theorem deliv_law (a : Option Addr) (len cap : Nat) (zs : List Int) (w : World) (h : IsRow .i64 w a len cap zs) : Calls Tryz.prog 8 #[.slice a len cap] w fun e w' => e = .returned (.bool true) ∧ Below w.heap.size w w' := by
  obtain ⟨l, rfl, hr, hm, hw⟩ := h.row
  exact deliv_walk a cap l w hr hm hw
end Go.Proofs.YtimkmieohkefiaaGreat
