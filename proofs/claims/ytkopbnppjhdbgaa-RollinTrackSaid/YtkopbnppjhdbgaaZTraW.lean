/-
  Stage 14: the walk of RollinTrack.
-/
import Derived.Test.YtkopbnppjhdbgaaZTraP
set_option linter.unusedSimpArgs false
set_option linter.unusedVariables false
namespace Go.Proofs.Ytkopbnppjhdbgaa
open Go.RowKit Go.Lib

theorem pp_natT {w : World} {A : Option Addr} {ls : List (List Nat)} (h : PP w A (ls.map toZ)) {k : Nat} (hk : k < ls.length) :
    ∃ ad : Addr, A = some ad ∧ ∃ a c, w.cell? (ad.add k) = some (.slice a (ls.getD k []).length c) ∧ Row .i64 w w.heap.size a (toZ (ls.getD k [])) ∧ ad.block < w.heap.size := by
  obtain ⟨ad, e, hb, a, c, h1, h2, _⟩ := h k _ (getD_ls hk)
  rw [toZ_len] at h1
  exact ⟨ad, e, a, c, h1, h2, hb⟩
set_option maxRecDepth 100000 in
set_option maxHeartbeats 6400000 in
theorem tra_walk (A : Option Addr) (c : Nat) (zs : List Int) (w : World) (hr : Row .i64 w w.heap.size A zs) (hm : zs.length ≤ maxLen) (hw : ∀ n ∈ zs, (Lit.int .i64 n).wf = true) :
    Calls Try.prog 7 #[.slice A zs.length c] w fun e w' => e = .returned (.bool true) ∧ Below w.heap.size w w' := by
  have K := Lib.hid (mk_row (c := c) (T := 73) hr hm hw)
  have B := Lib.hid ((Below.refl w.heap.size w).alloc (Nat.le_refl _) (.cells #[.slice A zs.length c, .int .i64 0] 73))
  clear hr hw
  go_enter Try.func7, Try.ntmps7
  go_wp2_with fail
  refine (new_any A zs.length c w).mono ?_
  rintro e w1 ⟨rfl, hw1⟩
  rw [← hw1] at K B
  clear hw1 hm
  go_wp2_with fail
  refine mjob_start w w1 14 (by omega) K.out B.out ?_
  intro jA jc l wt w2 hl hlt hS
  obtain ⟨b, hb⟩ : ∃ b, b = w2.heap.size := ⟨_, rfl⟩
  have S3 := Lib.hid (hS b hb)
  clear K B hS hlt
  go_upto_region 3 with fail
  rw [← hb]
  generalize w2.alloc (.cells #[.slice jA l.length jc, .int .i64 wt] 24) = w3 at *
  clear hb
  obtain ⟨L, hL⟩ : ∃ n, n = l.length := ⟨_, rfl⟩
  have HL := Lib.hid hL
  have HPN := Lib.hid (plan_any l jA jc L wt hL w.heap.size (5 + 5 * 14) (by omega) w3 S3.out.val (by have := S3.out.own; rw [← hL] at this; exact this) S3.out.mkr)
  have J := S3.out.box
  rw [← hL] at J hl ⊢
  obtain ⟨j0, j1, jl⟩ := J
  clear hL
  go_wp2_with fail
  refine HPN.out.mono ?_
  rintro e w4 ⟨S, pA, pc, v, rfl, PO, hpl, k4, v4⟩
  have HPL := Lib.hid hpl
  have S4 := Lib.hid (S3.out.step v4 k4)
  obtain ⟨g1, hg1⟩ : ∃ g, g = w4.heap.size := ⟨_, rfl⟩
  have P4 := Lib.hid (PSt.new (st := (S : Int)) (m := w.heap.size) PO (Nat.lt_trans S3.out.lt S3.out.box.lt) g1 hg1 (by rw [hg1]; have := S4.out.lt; have := S4.out.box.lt; omega))
  have BX := (Below.refl w4.heap.size w4).alloc (Nat.le_refl _) (.cells #[.int .i64 (S : Int), .slice pA v.length pc] 27)
  have S5 := Lib.hid (S4.out.below BX)
  have hvl := hpl.len
  rw [← HL.out] at hvl
  clear j0 j1 jl S3 S4 PO BX k4 v4 hpl HPN
  go_upto_region 4 with fail
  rw [← hg1]
  rw [hvl] at P4 S5
  generalize w4.alloc (.cells #[.int .i64 (S : Int), .slice pA L pc] 27) = w5 at *
  clear hg1
  have HVL := Lib.hid hvl
  have hS12 := HPL.out.s12
  have hL14 : L ≤ 14 := hl
  clear hvl hl
  have HCO := Lib.hid (fun (t : Nat) (W : World) (k : IRow W jA l) (q : Row .i64 W W.heap.size pA v) => cont_any l jA jc L wt (S : Int) v pA L pc (t : Int) HL.out HVL.out.symm W k q (by rw [HVL.out]; unfold maxLen; omega))
  have HV0 := Lib.hid HPL.out.val14
  obtain ⟨T, hT⟩ : ∃ T, T = tnT l := ⟨_, rfl⟩
  have hT16 : T ≤ 16 := by rw [hT]; have := (tcI_bd (valid_ok HPL.out.val).2.1 l.length (Nat.le_refl _)).1; unfold tnT; omega
  have HTT := Lib.hid hT
  clear hT
  go_wp2_with fail
  go_loopw [6] (fun iv wr => ∃ t : Nat, t ≤ S + 1 ∧ iv = .int .i64 (t : Int) ∧ Hid (Below w5.heap.size w5 wr)) (fun iv _ => S + 1 - (intOf iv).toNat)
  case atStart => exact ⟨0, by omega, rfl, Lib.hid (Below.refl _ _)⟩
  case round =>
    obtain ⟨t, ht, rfl, BR⟩ := hrel
    have SR := Lib.hid (S5.out.below BR.out)
    have PR := Lib.hid (P4.out.below BR.out)
    have J := SR.out.box
    rw [← HL.out] at J
    obtain ⟨j0, j1, jl⟩ := J
    obtain ⟨p0, p1, -, pl⟩ := PR.out.box
    by_cases hlt : t ≤ S
    · have hti : (t : Int) ≤ (S : Int) := by omega
      go_wp2_with fail
      refine (HCO.out t wr SR.out.irow PR.out.row.1).mono ?_
      rintro e w6 hc
      have hce : contE l wt (S : Int) v (t : Int) = 0 := by unfold contE; rw [if_pos HV0.out, if_neg (by omega)]
      obtain ⟨-, S', t', gs, gt, base, hSS, htt, -, -, rfl, hC⟩ := hc.resolve_left (fun h => h.1 hce)
      obtain rfl : S = S' := by omega
      obtain rfl : t = t' := by omega
      rw [← HTT.out]
      have HC1 := Lib.hid hC.two.pps
      have HC2 := Lib.hid hC.two.ppt
      have HCNT := Lib.hid (fun x => tra_cnt HPL.out.fitN hlt (x := x))
      have HCIN := Lib.hid (fun x q r => tra_in HPL.out.fitN hlt (x := x) (q := q) (r := r))
      have HLOW := Lib.hid (fun b (hb : b + 1 < t + 1) => mS_low HPL.out.fitN (n := t + 1) (by omega) hb)
      rw [← HTT.out, ← HL.out] at HC2 HCNT HCIN
      rw [← HL.out] at HC1 HLOW
      obtain ⟨ss, hss⟩ : ∃ ss, ss = mS S L (cdN v) (rdN l) (t + 1) := ⟨_, rfl⟩
      obtain ⟨tt, htt2⟩ : ∃ tt, tt = mT S L T (cdN v) (rdN l) (tnN l) (t + 1) := ⟨_, rfl⟩
      have HSL := Lib.hid (show ss.length = S by rw [hss, mS_len])
      have HTL := Lib.hid (show tt.length = T by rw [htt2, mT_len])
      rw [← hss] at HC1 HCNT HCIN HLOW
      rw [← htt2] at HC2 HCNT HCIN
      have B6 := Lib.hid (BR.out.trans (hC.bel.mono BR.out.size))
      clear hc hce hSS htt hC hss htt2 j0 j1 jl p0 p1 pl SR PR
      obtain ⟨p0, p1, -, pl⟩ := (P4.out.below B6.out).box
      have J := (S5.out.below B6.out).box
      rw [← HL.out] at J
      obtain ⟨j0, j1, jl⟩ := J
      have hsn : ((S : Int) != (S : Int)) = false := by simp
      obtain ⟨cs, hcs⟩ : ∃ cs, cs = ((List.replicate L (0 : Int)).map (Value.int .i64)).toArray := ⟨_, rfl⟩
      have hmk : ∀ W, (Instr.makeSlice 25 (.int .i64 (L : Int)) (.int .i64 (L : Int))).run Try.prog W = .ok (.slice (some ⟨W.heap.size, 0, none⟩) L L) (W.alloc (.cells cs 3)) := fun W => by rw [hcs]; exact make_ints W L (by omega)
      have BX := (Below.refl w6.heap.size w6).alloc (Nat.le_refl _) (.cells cs 3)
      have HLD := Lib.hid (show LdS w6 (w6.alloc (.cells cs 3)) w6.heap.size L (seenN L []) by
        refine ⟨?_, BX, by rw [seenN_len]⟩
        have := Own.laid (k := .i64) (T := 3) w6 w6.heap.size (Nat.le_refl _) (List.replicate L (0 : Int)) L (by simp) (by omega)
        show Own .i64 3 _ _ _ (toZ (List.replicate L 0))
        rw [← toZ_rep, hcs]
        exact this)
      clear BX hcs
      go_upto_region 11 with fail
      clear hmk p0 p1 pl j0 j1 jl hsn
      obtain ⟨g, hg⟩ : ∃ g, g = w6.heap.size := ⟨_, rfl⟩
      rw [← hg] at HLD ⊢
      generalize w6.alloc (.cells cs 3) = w7 at *
      have HG6 := Lib.hid (show w6.heap.size ≤ g by omega)
      clear hg
      have BX := (Below.refl w7.heap.size w7).alloc (Nat.le_refl _) (.cells #[.slice (some ⟨gs, 0, none⟩) S S, .slice (some ⟨gt, 0, none⟩) T T] 30)
      have HLD8 := Lib.hid (HLD.out.below BX)
      obtain ⟨gl, hgl⟩ : ∃ x, x = w7.heap.size := ⟨_, rfl⟩
      have HGL := Lib.hid (show g < gl by rw [hgl]; exact HLD.out.ge.2)
      have HLT := Lib.hid (show ∀ k, k < 2 → ∃ h : Nat, (w7.alloc (.cells #[.slice (some ⟨gs, 0, none⟩) S S, .slice (some ⟨gt, 0, none⟩) T T] 30)).cell? ⟨gl, k, none⟩ = some (.slice (some ⟨h, 0, none⟩) (([ss, tt] : List (List (List Nat))).getD k []).length (([ss, tt] : List (List (List Nat))).getD k []).length) ∧ PP w6 (some ⟨h, 0, none⟩) ((([ss, tt] : List (List (List Nat))).getD k []).map toZ) from fun k hk => by
        rcases (show k = 0 ∨ k = 1 by omega) with rfl | rfl
        · exact ⟨gs, by rw [hgl, cell_new]; show some (Value.slice (some ⟨gs, 0, none⟩) S S) = some (.slice (some ⟨gs, 0, none⟩) ss.length ss.length); rw [HSL.out], HC1.out⟩
        · exact ⟨gt, by rw [hgl, cell_new]; show some (Value.slice (some ⟨gt, 0, none⟩) T T) = some (.slice (some ⟨gt, 0, none⟩) tt.length tt.length); rw [HTL.out], HC2.out⟩)
      have HUB := Lib.hid (show ∀ k, k < 2 → (([ss, tt] : List (List (List Nat))).getD k []).length ≤ 16 from fun k hk => by
        rcases (show k = 0 ∨ k = 1 by omega) with rfl | rfl
        · show ss.length ≤ 16; rw [HSL.out]; omega
        · show tt.length ≤ 16; rw [HTL.out]; omega)
      have HUL := Lib.hid (show ([ss, tt] : List (List (List Nat))).length = 2 from rfl)
      obtain ⟨uu, huu⟩ : ∃ uu, uu = ([ss, tt] : List (List (List Nat))) := ⟨_, rfl⟩
      rw [← huu] at HCNT HCIN HLT HUB HUL
      have HTOT := Lib.hid (show uu.flatten.flatten.length ≤ L from tot_le HCNT.out)
      clear BX huu HC2 HLD
      go_upto_region 12 with fail
      rw [← hgl]
      generalize w7.alloc (.cells #[.slice (some ⟨gs, 0, none⟩) S S, .slice (some ⟨gt, 0, none⟩) T T] 30) = w8 at *
      clear hgl
      go_loopw [58] (fun iv wa => ∃ k : Nat, k ≤ 2 ∧ iv = .int .i64 (k : Int) ∧ Hid (LdS w6 wa g L (seenN L (uu.take k).flatten.flatten)) ∧ Hid (wa.heap[gl]? = w8.heap[gl]?)) (fun iv _ => 2 - (intOf iv).toNat)
      case atStart => exact ⟨0, by omega, rfl, HLD8, Lib.hid rfl⟩
      case round =>
        clear HLD8
        obtain ⟨k, hk, rfl, LA, GA⟩ := hrel
        generalize wr = wa at *
        by_cases hlk : k < 2
        · obtain ⟨h, hcl, hpp⟩ := HLT.out k hlk
          have hul := HUB.out k hlk
          have hku : k < uu.length := by rw [HUL.out]; exact hlk
          have hca := (show wa.cell? ⟨gl, k, none⟩ = w8.cell? ⟨gl, k, none⟩ from World.cell?_of_block (w := w8) GA.out).trans hcl
          have HPU := Lib.hid hpp
          have HBZ := Lib.hid (befN_zero uu k)
          have HBS := Lib.hid (fun j hj => befN_succ (uu := uu) (k := k) (j := j) hj)
          have HBN := Lib.hid (befN_next hku)
          have HBP := Lib.hid (fun i j hj => befN_pre (uu := uu) (k := k) (j := j) (i := i) hku hj)
          obtain ⟨us, hus⟩ : ∃ us, us = uu.getD k [] := ⟨_, rfl⟩
          rw [← hus] at hca HPU hul HBS HBN HBP
          obtain ⟨U, hU⟩ : ∃ U, U = us.length := ⟨_, rfl⟩
          rw [← hU] at hca hul
          have HU := Lib.hid hU
          have hki : (k : Int) < 2 := by omega
          clear hcl hpp hus hU
          go_wp2_with fail
          clear hca
          have LA0 := Lib.hid (show LdS w6 wa g L (seenN L (befN uu k 0)) by rw [HBZ.out]; exact LA.out)
          clear LA
          go_loopw [64] (fun iv wb => ∃ j : Nat, j ≤ U ∧ iv = .int .i64 (j : Int) ∧ Hid (LdS w6 wb g L (seenN L (befN uu k j))) ∧ Hid (wb.heap[gl]? = w8.heap[gl]?)) (fun iv _ => U - (intOf iv).toNat)
          case atStart => exact ⟨0, by omega, rfl, LA0, GA⟩
          case round =>
            clear LA0 GA
            obtain ⟨j, hj, rfl, LB, GB⟩ := hrel
            generalize wr = wb at *
            by_cases hlj : j < U
            · have hju : j < us.length := by rw [← HU.out]; exact hlj
              obtain ⟨ad, ead, a, ca, c1, R1, hb1⟩ := pp_natT HPU.out hju
              have had : ad = ⟨h, 0, none⟩ := by injection ead with e; exact e.symm
              subst had
              rw [add_own] at c1
              have c2 := (LB.out.bel.cell (p := ⟨h, j, none⟩) hb1).trans c1
              have HBSJ := Lib.hid (HBS.out j hju)
              have HBPJ := Lib.hid (fun i => HBP.out i j hju)
              obtain ⟨Q, hQ⟩ : ∃ Q, Q = us.getD j [] := ⟨_, rfl⟩
              rw [← hQ] at c2 R1 HBSJ HBPJ
              have HR := Lib.hid R1
              obtain ⟨qn, hqn⟩ : ∃ n, n = Q.length := ⟨_, rfl⟩
              rw [← hqn] at c2
              have HQN := Lib.hid hqn
              have hji : (j : Int) < (U : Int) := by omega
              obtain ⟨q0, hq0⟩ : ∃ q, q = befN uu k j := ⟨_, rfl⟩
              rw [← hq0] at HBSJ HBPJ LB
              clear R1 hQ hqn c1 hb1 ead hq0
              have hqm : (qn : Int) ≤ 1000000000000 ∨ True := Or.inr trivial
              clear hqm
              go_wp2_with fail
              clear c2
              have LB0 := Lib.hid (show LdS w6 wb g L (seenN L (q0 ++ Q.take 0)) by rw [List.take_zero, List.append_nil]; exact LB.out)
              clear LB
              have hqm : qn ≤ 1000000 := by
                have := HR.out
                rcases Nat.lt_or_ge qn 1000001 with g | g
                · omega
                · exfalso
                  obtain ⟨r, hr⟩ := HBPJ.out Q.length
                  have e1 := congrArg List.length hr
                  rw [List.take_length] at e1
                  simp only [List.length_append] at e1
                  have := HTOT.out
                  rw [← HQN.out] at e1
                  omega
              go_loopw [70] (fun iv wc => ∃ i : Nat, i ≤ qn ∧ iv = .int .i64 (i : Int) ∧ Hid (LdS w6 wc g L (seenN L (q0 ++ Q.take i))) ∧ Hid (wc.heap[gl]? = w8.heap[gl]?)) (fun iv _ => qn - (intOf iv).toNat)
              case atStart => exact ⟨0, by omega, rfl, LB0, GB⟩
              case round =>
                clear LB0 GB
                obtain ⟨i, hi, rfl, LI, GI⟩ := hrel
                generalize wr = wc at *
                by_cases hli : i < qn
                · have hiq : i < Q.length := by rw [← HQN.out]; exact hli
                  obtain ⟨qad, rfl, qlt, cv⟩ := (HR.out.below LI.out.bel) i (by rw [toZ_len]; exact hiq)
                  rw [toZ_at Q hiq] at cv
                  have HTS := Lib.hid (take_succL hiq)
                  obtain ⟨x, hx⟩ : ∃ x, x = Q.getD i 0 := ⟨_, rfl⟩
                  rw [← hx] at cv HTS
                  obtain ⟨r, hr⟩ := HBPJ.out (i + 1)
                  rw [HTS.out, ← List.append_assoc] at hr
                  obtain ⟨hxL, hx0⟩ := HCIN.out x _ r hr
                  have cB := LI.out.cell hxL
                  rw [seenN_at hxL, hx0] at cB
                  have fB := LI.out.frozen x
                  have HNEXT := Lib.hid (show LdS w6 (wc.setCell ⟨g, x, none⟩ (.int .i64 1)) g L (seenN L (q0 ++ Q.take (i + 1))) by
                    have := LI.out.add x 1
                    rw [seenN_at hxL, hx0, seenN_add, List.append_assoc, ← HTS.out] at this
                    exact this)
                  have HGN := Lib.hid (show (wc.setCell ⟨g, x, none⟩ (.int .i64 1)).heap[gl]? = w8.heap[gl]? by
                    rw [Below.heap_setCell _ _ _ _ (show gl ≠ g by have := HGL.out; omega)]; exact GI.out)
                  have hxp : ¬ (x : Int) < 0 := by omega
                  have hxl : ¬ (L : Int) ≤ (x : Int) := by omega
                  have hxl2 : (x : Int) < (L : Int) := by omega
                  have hii : (i : Int) < (qn : Int) := by omega
                  clear hr hx0 hx LI GI
                  go_wp2_with fail
                  go_roundw
                  case rel => exact ⟨i + 1, by omega, by go_num, HNEXT, HGN⟩
                  case measure => simp [intOf]; omega
                · have hiq : i = qn := by omega
                  have hni : ¬ (i : Int) < (qn : Int) := by omega
                  have hli2 := LI.out
                  rw [hiq, HQN.out, List.take_length, ← HBSJ.out] at hli2
                  have HLI := Lib.hid hli2
                  clear hiq hli2 LI hli
                  go_wp2_with fail
                  go_roundw
                  case rel => exact ⟨j + 1, by omega, by go_num, HLI, GI⟩
                  case measure => simp [intOf]; omega
            · have hjU : j = U := by omega
              have hli := LB.out
              rw [hjU, HU.out, ← HBN.out] at hli
              have HLI := Lib.hid hli
              have hnj : ¬ (j : Int) < (U : Int) := by omega
              clear hjU hli LB hlj
              go_wp2_with fail
              go_roundw
              case rel => exact ⟨k + 1, by omega, by go_num, HLI, GB⟩
              case measure => simp [intOf]; omega
        · have hk2 : k = 2 := by omega
          have hnk : ¬ (k : Int) < 2 := by omega
          have hla := LA.out
          rw [hk2, show uu.take 2 = uu from List.take_of_length_le (by rw [HUL.out]; exact Nat.le_refl _)] at hla
          have LE := Lib.hid hla
          clear hk2 hla LA hlk GA HLT
          go_wp2_with fail
          clear hnk
          go_loopw [93] (fun iv wb => ∃ x : Nat, x ≤ L ∧ iv = .int .i64 (x : Int) ∧ Hid (wb = wa)) (fun iv _ => L - (intOf iv).toNat)
          case atStart => exact ⟨0, by omega, rfl, Lib.hid rfl⟩
          case round =>
            obtain ⟨x, hx, rfl, HW⟩ := hrel
            have hw := HW.out
            rw [hw]
            clear hw HW
            by_cases hlx : x < L
            · have hxL : x < l.length := by rw [← HL.out]; exact hlx
              have cB := LE.out.cell hlx
              rw [seenN_at hlx, HCNT.out x] at cB
              have SR := S5.out.below (B6.out.trans (LE.out.bel.mono B6.out.size))
              obtain ⟨aA, rfl, CE⟩ := SR.irow.at_ x hxL
              obtain ⟨c0, c1, c2, c3⟩ := CE.spelt
              have hrv : (l.getD x it0).2.2.1 = (rdN l x : Int) := (HPL.out.rd hxL).1
              rw [hrv] at c2
              have J := SR.box
              rw [← HL.out] at J
              obtain ⟨j0, j1, jl⟩ := J
              obtain ⟨R, hR⟩ : ∃ R, R = rdN l x := ⟨_, rfl⟩
              rw [← hR] at c2 cB
              have hlx' : (x : Int) < (L : Int) := by omega
              clear hrv hR CE SR c0 c1 c3
              by_cases hRt : R ≤ t
              · have hRi : (R : Int) ≤ (t : Int) := by omega
                rw [if_pos ⟨hlx, by omega⟩] at cB
                go_wp2_with fail
                go_roundw
                case rel => exact ⟨x + 1, by omega, by go_num, by first | exact Lib.hid rfl | exact Lib.hid trivial⟩
                case measure => simp [intOf]; omega
              · have hRi : ¬ (R : Int) ≤ (t : Int) := by omega
                rw [if_neg (by omega)] at cB
                go_wp2_with fail
                go_roundw
                case rel => exact ⟨x + 1, by omega, by go_num, by first | exact Lib.hid rfl | exact Lib.hid trivial⟩
                case measure => simp [intOf]; omega
            · have hxl : x = L := by omega
              have hnx : ¬ (x : Int) < (L : Int) := by omega
              clear hxl hlx
              go_wp2_with fail
              clear hnx
              go_loopw [19] (fun iv wc => ∃ i : Nat, i ≤ t ∧ iv = .int .i64 (i : Int) ∧ Hid (wc = wa)) (fun iv _ => t - (intOf iv).toNat)
              case atStart => exact ⟨0, by omega, rfl, Lib.hid rfl⟩
              case round =>
                obtain ⟨i, hi, rfl, HW2⟩ := hrel
                have hw := HW2.out
                rw [hw]
                clear hw HW2
                by_cases hlii : i < t
                · have hiS : i < ss.length := by rw [HSL.out]; omega
                  obtain ⟨ad, ead, a, ca, c1, R1, hb1⟩ := pp_natT HC1.out hiS
                  have had : ad = ⟨gs, 0, none⟩ := by injection ead with e; exact e.symm
                  subst had
                  rw [add_own] at c1
                  have c2 := (LE.out.bel.cell (p := ⟨gs, i, none⟩) hb1).trans c1
                  rw [HLOW.out i (by omega)] at c2
                  have hii : (i : Int) < (t : Int) := by omega
                  have hiS2 : (i : Int) < (S : Int) := by omega
                  have hiS3 : i < S := by omega
                  clear c1 R1 hb1 ead
                  go_wp2_with fail
                  go_roundw
                  case rel => exact ⟨i + 1, by omega, by go_num, by first | exact Lib.hid rfl | exact Lib.hid trivial⟩
                  case measure => simp [intOf]; omega
                · have hni : ¬ (i : Int) < (t : Int) := by omega
                  have HBE := Lib.hid (B6.out.trans (LE.out.bel.mono B6.out.size))
                  go_wp2_with fail
                  go_roundw
                  case rel => exact ⟨t + 1, by omega, by go_num, HBE⟩
                  case measure => simp [intOf]; omega
    · have hti : ¬ (t : Int) ≤ (S : Int) := by omega
      have HB := Lib.hid SR.out.bel
      go_wp2_with fail
      refine (sane14_any _).mono ?_
      rintro e wz ⟨rfl, BZ⟩
      have HZ := Lib.hid (HB.out.trans (BZ.mono HB.out.size))
      clear BZ
      go_wp2_with fail
      go_ret
      exact ⟨rfl, HZ.out⟩
theorem tra_law (a : Option Addr) (len cap : Nat) (zs : List Int) (w : World) (h : IsRow .i64 w a len cap zs) :
    Calls Try.prog 7 #[.slice a len cap] w fun e w' => e = .returned (.bool true) ∧ Below w.heap.size w w' := by
  obtain ⟨l, rfl, h1, h2, h3⟩ := h.row
  exact tra_walk a cap l w h1 h2 h3
end Go.Proofs.Ytkopbnppjhdbgaa
