/-
  Stage 10: the walk of TreeCommon.
-/
import Derived.Test.YteeoecegpnmafaaDoorTLawK
import Derived.Test.YteeoecegpnmafaaDoorTTree
import Derived.Deep.RegionLaw
import Derived.StillTailTactics
set_option linter.unusedSimpArgs false
set_option linter.unusedVariables false
namespace Go.Proofs.YteeoecegpnmafaaDoor
open Go.RowKit Go.Lib

set_option maxRecDepth 100000 in
set_option maxHeartbeats 6400000 in
theorem comm_walk (A : Option Addr) (c : Nat) (zs : List Int) (w : World) (D : Dor w) (hr : Row .i64 w w.heap.size A zs) (hm : zs.length ≤ maxLen) (hw : ∀ n ∈ zs, (Lit.int .i64 n).wf = true) :
    Calls Tryd.prog 5 #[.slice A zs.length c] w (BoolPost true w) := by
  have K := Lib.hid (mk_row (c := c) (T := 49) hr hm hw)
  have B := Lib.hid ((Below.refl w.heap.size w).alloc (Nat.le_refl _) (.cells #[.slice A zs.length c, .int .i64 0] 49))
  obtain ⟨m, hmm⟩ : ∃ m, m = w.heap.size := ⟨_, rfl⟩
  have HMM := Lib.hid hmm
  have DD := Lib.hid D
  clear hr hw D
  go_enter Tryd.func5, Tryd.ntmps5
  go_wp2_with fail
  refine (new_any A zs.length c w).mono ?_
  rintro e w1 ⟨rfl, hw1⟩
  rw [← hw1] at K B
  rw [← hmm] at K ⊢
  clear hmm hw1 hm
  go_wp2_with fail
  refine (law_layout m 8 0 w w1 DD.out HMM.out K.out B.out (by omega) (by omega)).mono ?_
  rintro e w2 ⟨lA, lc, l, rfl, ⟨base, Y⟩, hl1, hl2⟩
  have Y2 := Lib.hid Y
  clear Y K B DD HMM
  have HTP := Lib.hid (TreeP.of Y2.out.ok)
  have hch : chkZ l [] = 0 := chk_of Y2.out.ok (fun z hz => by cases hz)
  have hp := tracks_any l lA lc w2 Y2.out.row
  rw [hch, show pairE 0 (trkZ l) = trkZ l from rfl] at hp
  have HP := Lib.hid hp
  have hne := trk_ne Y2.out.ok
  have hln : (trkZ l).length ≤ l.length := idx_len _ _
  have HMEM := Lib.hid (fun x (h : x ∈ trkZ l) => trk_mem.1 h)
  clear hch hp
  generalize trkZ l = ts at *
  go_wp2_with fail
  refine HP.out.mono ?_
  rintro e w3 ⟨v, rfl, O, B3⟩
  obtain ⟨g, tc, rfl, htc, hg1, hg2, _⟩ := own_some O hne
  have Y3 := Lib.hid (Y2.out.below B3)
  have OO := Lib.hid O
  have hm3 : m < w2.heap.size := Y2.out.kk.lt
  obtain ⟨L, hL⟩ : ∃ n, n = ts.length := ⟨_, rfl⟩
  have HL := Lib.hid hL
  have hL0 : ((L : Int) == 0) = false := beq_eq_false_iff_ne.2 (by omega)
  have hL1 : 1 ≤ L := by omega
  have hL2 : L ≤ 76 := by omega
  rw [← hL] at htc ⊢
  clear O B3 HP Y2 hL hne hln
  go_upto_region 6 with fail
  go_cut [7, 8] (fun a b W => ∃ x y : Int, a = .int .i64 x ∧ b = .int .i64 y ∧ Hid (x ∈ ts ∧ y ∈ ts) ∧ Hid (∃ M, Ly w W m base M lA lc l))
  case first =>
    have hY : Ly w w3.drew m base _ lA lc l := Y3.out.drewN 1
    have hO : Own .i64 3 w3.drew w2.heap.size (.slice (some ⟨g, 0, none⟩) ts.length tc) ts := OO.out.drewN 1
    have HM := Lib.hid (fun (j : Nat) (hj : (j : Int) < (L : Int)) => (show ts.getD j 0 ∈ ts from getD_mem (by have := HL.out; omega)))
    go_region_law (first
      | (go_simp; go_at_call 14; refine (next_any m _ (L : Int) _ hYn.kk (by omega) (by omega) (by omega)).mono ?_; rintro e wq ⟨xj, rfl, xj1, xj2, kq, mq⟩; have hYq := hYn.moves mq kq; have hOq := hOn.moves mq hm3; obtain ⟨y0, rfl⟩ := Int.eq_ofNat_of_zero_le xj1; have hy0 : (y0 : Int) < (L : Int) := (by omega); have bx := hOq.cell rfl x0 (by have := HL.out; omega); have bY := hOq.cell rfl y0 (by have := HL.out; omega); clear mq kq)
      | (go_simp; go_at_call 14; refine (next_any m _ (L : Int) _ hY.kk (by omega) (by omega) (by omega)).mono ?_; rintro e wn ⟨xi, rfl, xi1, xi2, kn, mn⟩; have hYn := hY.moves mn kn; have hOn := hO.moves mn hm3; obtain ⟨x0, rfl⟩ := Int.eq_ofNat_of_zero_le xi1; have hx0 : (x0 : Int) < (L : Int) := (by omega); have bn := hOn.cell rfl x0 (by have := HL.out; omega); clear mn kn))
    all_goals
      have HYQ := Lib.hid hYq
      have HXM := Lib.hid (HM.out x0 hx0)
      have HYM := Lib.hid (HM.out y0 hy0)
      clear hYq hOq hYn hOn hY hO bx bY bn
      go_wp2_with fail
      go_meet
      case rel => exact ⟨_, _, rfl, rfl, Lib.hid ⟨HXM.out, HYM.out⟩, Lib.hid ⟨_, HYQ.out⟩⟩
  case rest =>
    obtain ⟨x, y, rfl, rfl, HXY, HY⟩ := hcut
    obtain ⟨M, Y⟩ := HY.out
    have Y4 := Lib.hid Y
    have hx := HMEM.out x HXY.out.1
    have hy := HMEM.out y HXY.out.2
    have hch1 : chkZ l [x, y] = 0 := chk_of Y.ok (fun z hz => by simp at hz; rcases hz with rfl | rfl <;> omega)
    have hch2 : chkZ l [y, x] = 0 := chk_of Y.ok (fun z hz => by simp at hz; rcases hz with rfl | rfl <;> omega)
    have hchx : chkZ l [x] = 0 := chk_of Y.ok (fun z hz => by simp at hz; subst hz; omega)
    have hchy : chkZ l [y] = 0 := chk_of Y.ok (fun z hz => by simp at hz; subst hz; omega)
    have HC1 := Lib.hid (fun (W : World) (k : Below wc.heap.size wc W) => (by
      have := common_any l lA lc x y W (Y4.out.below k).row
      rw [hch1, show commE 0 (comZ l x y) = comZ l x y from rfl] at this
      exact this : Calls Tryd.prog 18 #[.slice lA l.length lc, .int .i64 x, .int .i64 y] W (ComPost (comZ l x y) 0 W)))
    have HC2 := Lib.hid (fun (W : World) (k : Below wc.heap.size wc W) => (by
      have := common_any l lA lc y x W (Y4.out.below k).row
      rw [hch2, show commE 0 (comZ l y x) = comZ l y x from rfl] at this
      exact this : Calls Tryd.prog 18 #[.slice lA l.length lc, .int .i64 y, .int .i64 x] W (ComPost (comZ l y x) 0 W)))
    by_cases hxy : x = y
    · subst hxy
      have hcs := com_self HTP.out.par hx.1 hx.2.1
      rw [hcs] at HC1 HC2
      have hx0 := hx.1
      have hx1 := hx.2.1
      clear Y HY HXY hx hy hch1 hch2 hchx hchy hcs HL hL0 hL1 hL2 OO HMEM Y3
      go_wp2_with fail
      refine (HC1.out wc (Below.refl _ _)).mono ?_
      rintro e w4 ⟨rfl, B4⟩
      have HB4 := Lib.hid B4
      have H2 := Lib.hid (HC2.out w4 B4)
      clear B4 HC1 HC2
      go_wp2_with fail
      refine H2.out.mono ?_
      rintro e w5 ⟨rfl, B5⟩
      have Y5 := Lib.hid ((Y4.out.below HB4.out).below B5)
      clear B5 H2 HB4
      go_wp2_with fail
      refine (sane_any _ Y5.out.dor).mono ?_
      rintro e w8 ⟨rfl, B8⟩
      have Y9 := Lib.hid (Y5.out.below B8).bel
      clear B8
      go_wp2_with fail
      go_ret
      exact ⟨rfl, Y9.out⟩
    · obtain ⟨cc, u, v, X, Z, ec1, ec2, hc0, hc1, hck, hss, es1, es2⟩ := com_bd HTP.out hx hy hxy
      rw [ec1] at HC1
      rw [ec2] at HC2
      have hxyb : (x == y) = false := beq_eq_false_iff_ne.2 hxy
      have HS1 := Lib.hid (fun (W : World) (k : Below wc.heap.size wc W) => (by
        have := settings_any l lA lc x W (Y4.out.below k).row
        rw [hchx, show pairQ 0 (setZ l x) = setZ l x from rfl, es1] at this
        exact this : Calls Tryd.prog 19 #[.slice lA l.length lc, .int .i64 x] W (SetPost (setL l (wayZ l cc) ++ (cc, sideA l u) :: X) 0 W)))
      have HS2 := Lib.hid (fun (W : World) (k : Below wc.heap.size wc W) => (by
        have := settings_any l lA lc y W (Y4.out.below k).row
        rw [hchy, show pairQ 0 (setZ l y) = setZ l y from rfl, es2] at this
        exact this : Calls Tryd.prog 19 #[.slice lA l.length lc, .int .i64 y] W (SetPost (setL l (wayZ l cc) ++ (cc, sideA l v) :: Z) 0 W)))
      obtain ⟨k0, rfl⟩ := Int.eq_ofNat_of_zero_le hc0
      generalize setL l (wayZ l (k0 : Int)) = S at *
      generalize sideA l u = s1 at *
      generalize sideA l v = s2 at *
      obtain ⟨ex, hex, _, ek, _⟩ := el_at (l := l) (k := k0) (by omega)
      have HEX := Lib.hid hex
      have HEK := Lib.hid (ek.symm.trans hck)
      clear Y HY HXY hx hy hch1 hch2 hchx hchy HL hL0 hL1 hL2 OO HMEM Y3 ec1 ec2 hck es1 es2 hxy hex ek
      go_wp2_with fail
      refine (HC1.out wc (Below.refl _ _)).mono ?_
      rintro e w4 ⟨rfl, B4⟩
      have HB4 := Lib.hid B4
      have H2 := Lib.hid (HC2.out w4 B4)
      clear B4 HC1 HC2
      go_wp2_with fail
      refine H2.out.mono ?_
      rintro e w5 ⟨rfl, B5⟩
      have HB5 := Lib.hid (HB4.out.trans (B5.mono HB4.out.size))
      clear B5 H2 HB4
      go_wp2_with fail
      refine (HS1.out w5 HB5.out).mono ?_
      rintro e w6 ⟨p, rfl, P, B6⟩
      obtain ⟨pA, pc, rfl, _⟩ := P.slice
      have HP6 := Lib.hid P
      have HB6 := Lib.hid (HB5.out.trans (B6.mono HB5.out.size))
      clear P B6 HB5 HS1
      go_wp2_with fail
      refine (HS2.out w6 HB6.out).mono ?_
      rintro e w7 ⟨q, rfl, Q, B7⟩
      obtain ⟨qA, qc, rfl, RQ⟩ := Q.slice
      obtain ⟨_, _, e1, RP⟩ := (HP6.out.below B7).slice
      injection e1 with e1 e2 e3
      subst e1
      have HRP := Lib.hid RP
      have HRQ := Lib.hid RQ
      have Y7 := Lib.hid (Y4.out.below (HB6.out.trans (B7.mono HB6.out.size)))
      obtain ⟨ad, hA, C⟩ := Y7.out.row.row.at_ HEX.out
      subst hA
      have cc0 := (ESpelt.of C).c0
      rw [HEK.out] at cc0
      clear RP RQ Q B7 HP6 HB6 e2 e3 C Y4 HS2
      have hLP : S.length < (S ++ ((k0 : Int), s1) :: X).length := by rw [List.length_append, List.length_cons]; omega
      have hLQ : S.length < (S ++ ((k0 : Int), s2) :: Z).length := by rw [List.length_append, List.length_cons]; omega
      have hLM : (S ++ ((k0 : Int), s1) :: X).length ≤ maxLen := HRP.out.len
      have hLM2 : (S ++ ((k0 : Int), s2) :: Z).length ≤ maxLen := HRQ.out.len
      unfold maxLen at hLM hLM2
      generalize (S ++ ((k0 : Int), s1) :: X).length = LP at *
      generalize (S ++ ((k0 : Int), s2) :: Z).length = LQ at *
      go_wp2_with fail
      go_loopw [15] (fun iv wr => (∃ n, wr = w7.drewN n) ∧ ∃ k : Nat, k ≤ S.length ∧ iv = .int .i64 (k : Int)) (fun iv _ => S.length + 1 - (intOf iv).toNat)
      case atStart => exact ⟨⟨0, rfl⟩, 0, by omega, rfl⟩
      case round =>
        clear cc0
        obtain ⟨⟨n, hwn⟩, k, hk, rfl⟩ := hrel
        have HW := Lib.hid hwn
        have hkp : (k : Int) < (LP : Int) := by omega
        have hkq : (k : Int) < (LQ : Int) := by omega
        by_cases hlt : k < S.length
        · obtain ⟨pr, hpr⟩ : ∃ pr, S[k]? = some pr := ⟨_, List.getElem?_eq_getElem hlt⟩
          have h1 : (S ++ ((k0 : Int), s1) :: X)[k]? = some pr := by rw [List.getElem?_append_left hlt]; exact hpr
          have h2 : (S ++ ((k0 : Int), s2) :: Z)[k]? = some pr := by rw [List.getElem?_append_left hlt]; exact hpr
          obtain ⟨a, rfl, C⟩ := HRP.out.at_ h1
          obtain ⟨b, rfl, C'⟩ := HRQ.out.at_ h2
          have c0 := (C.drewN n).first (R := QR) rfl
          have c1 := (C.drewN n).next (R := QR) 1 (by decide) rfl
          have d0 := (C'.drewN n).first (R := QR) rfl
          have d1 := (C'.drewN n).next (R := QR) 1 (by decide) rfl
          rw [← hwn] at c0 c1 d0 d1
          obtain ⟨pa, pb⟩ := pr
          simp only at c0 c1 d0 d1
          rw [show QR.m = 2 from rfl] at c0 c1 d0 d1
          have heq : ∀ W, (Op.equalIn 10000 46 (.agg #[.int .i64 pa, .int .i64 pb]) (.agg #[.int .i64 pa, .int .i64 pb])).run Tryd.prog W = .ok true W := fun W => by rw [eqQ]; simp
          clear C C' h1 h2 hpr hwn
          go_upto_region 20 with fail
          go_region
          clear c0 c1 d0 d1 heq
          go_wp2_with fail
          go_roundw
          case rel => exact ⟨by have := HW.out; subst this; exact ⟨n + 1, rfl⟩, k + 1, by omega, by go_num⟩
          case measure => simp [intOf]; omega
        · obtain rfl : k = S.length := by omega
          have h1 : (S ++ ((k0 : Int), s1) :: X)[S.length]? = some ((k0 : Int), s1) := by simp
          have h2 : (S ++ ((k0 : Int), s2) :: Z)[S.length]? = some ((k0 : Int), s2) := by simp
          obtain ⟨a, rfl, C⟩ := HRP.out.at_ h1
          obtain ⟨b, rfl, C'⟩ := HRQ.out.at_ h2
          have c0 := (C.drewN n).first (R := QR) rfl
          have c1 := (C.drewN n).next (R := QR) 1 (by decide) rfl
          have d0 := (C'.drewN n).first (R := QR) rfl
          have d1 := (C'.drewN n).next (R := QR) 1 (by decide) rfl
          rw [← hwn] at c0 c1 d0 d1
          simp only at c0 c1 d0 d1
          rw [show QR.m = 2 from rfl] at c0 c1 d0 d1
          have heq : ∀ W, (Op.equalIn 10000 46 (.agg #[.int .i64 (k0 : Int), .int .i64 s1]) (.agg #[.int .i64 (k0 : Int), .int .i64 s2])).run Tryd.prog W = .ok false W := fun W => by rw [eqQ]; simp [hss]
          have Y8 := Lib.hid (show Ly w wr m base _ (some ad) lc l by rw [hwn]; exact Y7.out.drewN n)
          clear C C' h1 h2 hwn
          go_upto_region 20 with fail
          go_region
          go_upto_region 21 with fail
          have HDD := Lib.hid (show Dor wr.drew from Y8.out.dor.below ⟨rfl, rfl, rfl, Nat.le_refl _, fun _ _ => rfl⟩)
          have HBB := Lib.hid (show Below w.heap.size w wr.drew from ⟨Y8.out.bel.os, Y8.out.bel.tape, Y8.out.bel.output, Y8.out.bel.size, Y8.out.bel.block⟩)
          have hsb : (s1 != s2) = true := bne_iff_ne.2 hss
          replace c0 : wr.drew.cell? _ = _ := c0
          replace c1 : wr.drew.cell? _ = _ := c1
          replace d0 : wr.drew.cell? _ = _ := d0
          replace d1 : wr.drew.cell? _ = _ := d1
          clear heq Y8 HW
          generalize wr.drew = wz at *
          go_still_tail 30, (by kernel_rfl)
          change wpList _ _ _ _ _ wz.drew
          clear c0 c1 d0 d1
          go_wp2_with fail
          refine (sane_any wz.drew (HDD.out.below ⟨rfl, rfl, rfl, Nat.le_refl _, fun _ _ => rfl⟩)).mono ?_
          rintro e w8 ⟨rfl, B8⟩
          have HB8 := Lib.hid ((show Below w.heap.size w wz.drew from bdn (n := 1) HBB.out).trans (B8.mono HBB.out.size))
          clear B8
          go_wp2_with fail
          go_ret
          exact ⟨rfl, HB8.out⟩
end Go.Proofs.YteeoecegpnmafaaDoor
