/-
  Stage 10: the walk of TreeLeads.
-/
import Derived.Test.YteeoecegpnmafaaDoorTLawK
import Derived.Test.YteeoecegpnmafaaDoorTBey
set_option linter.unusedSimpArgs false
set_option linter.unusedVariables false
namespace Go.Proofs.YteeoecegpnmafaaDoor
open Go.RowKit Go.Lib

theorem setL_app (l : List El) (A B : List Int) : setL l (A ++ B) = setL l A ++ setL l B := by unfold setL; rw [List.filter_append, List.map_append]
theorem lead_next {l : List El} (h : TreeP l) {x a : Int} (hx : 0 ≤ x) (hx1 : x < l.length) (hk : kindA l x = 4) {p : Nat} (hp : (wayZ l x)[p]? = some a) (ha : kindA l a ≠ 4) :
    ∃ z : Nat, (wayZ l x)[p + 1]? = some (z : Int) ∧ parA l (z : Int) = a ∧ 0 ≤ a ∧ a < (z : Int) ∧ z < l.length := by
  have hl := way_last h.par hx hx1
  have hlt := (List.getElem?_eq_some_iff.1 hp).1
  by_cases g : p + 1 < (wayZ l x).length
  · have hd := List.getElem?_eq_getElem g
    obtain ⟨e, f, f2, f3⟩ := way_next h.par hx1 hd
    rw [e] at hp
    injection hp with hp
    obtain ⟨z, hz⟩ := Int.eq_ofNat_of_zero_le (show 0 ≤ (wayZ l x)[p + 1] by omega)
    rw [hz] at hd hp f f2 f3
    exact ⟨z, hd, hp, by omega, by omega, by omega⟩
  · have : p = (wayZ l x).length - 1 := by omega
    rw [← this, hp] at hl
    injection hl.2 with e
    rw [e] at ha
    exact absurd hk ha
theorem lead_end {l : List El} (h : TreeP l) {x a : Int} (hx : 0 ≤ x) (hx1 : x < l.length) {p : Nat} (hp : (wayZ l x)[p]? = some a) (ha : kindA l a = 4) : a = x ∧ setL l ((wayZ l x).take (p + 1)) = setZ l x := by
  have e := trk_end h hx hx1 (List.mem_of_getElem? hp) ha
  subst e
  have hl := way_last h.par hx hx1
  have := way_pos h.par hx1 hp hl.2
  refine ⟨rfl, ?_⟩
  unfold setZ
  rw [List.take_of_length_le (by omega)]
theorem lead_step {l : List El} {x : Int} {p : Nat} {z : Nat} (hz : (wayZ l x)[p + 1]? = some (z : Int)) (h0 : 0 < (z : Int)) (h3 : kindA l (parA l (z : Int)) = 3) :
    (setZ l x)[(setL l ((wayZ l x).take (p + 1))).length]? = some (parA l (z : Int), sideA l (z : Int)) ∧ (setL l ((wayZ l x).take (p + 2))).length = (setL l ((wayZ l x).take (p + 1))).length + 1 := by
  have hlt := (List.getElem?_eq_some_iff.1 hz).1
  have ht : (wayZ l x).take (p + 2) = (wayZ l x).take (p + 1) ++ [(z : Int)] := by
    rw [List.take_succ_eq_append_getElem hlt]
    rw [List.getElem?_eq_getElem hlt] at hz
    injection hz with hz
    rw [hz]
  have hs : setL l [(z : Int)] = [(parA l (z : Int), sideA l (z : Int))] := by
    unfold setL
    rw [List.filter_cons_of_pos (by unfold isSet; rw [decide_eq_true h0, decide_eq_true h3]; rfl)]; rfl
  constructor
  · unfold setZ
    rw [← List.take_append_drop (p + 2) (wayZ l x), setL_app, ht, setL_app, hs]
    have e : (setL l (List.take (p + 1) (List.take (p + 1) (wayZ l x) ++ [(z : Int)] ++ List.drop (p + 2) (wayZ l x)))) = setL l ((wayZ l x).take (p + 1)) := by
      rw [← ht, List.take_append_drop]
    rw [e]
    simp
  · rw [ht, setL_app, hs, List.length_append]; rfl
theorem lead_skip {l : List El} {x : Int} {p : Nat} {z : Nat} (hz : (wayZ l x)[p + 1]? = some (z : Int)) (h3 : kindA l (parA l (z : Int)) ≠ 3) :
    (setL l ((wayZ l x).take (p + 2))).length = (setL l ((wayZ l x).take (p + 1))).length := by
  have hlt := (List.getElem?_eq_some_iff.1 hz).1
  have ht : (wayZ l x).take (p + 2) = (wayZ l x).take (p + 1) ++ [(z : Int)] := by
    rw [List.take_succ_eq_append_getElem hlt]
    rw [List.getElem?_eq_getElem hlt] at hz
    injection hz with hz
    rw [hz]
  rw [ht, setL_snoc, if_neg (by unfold isSet; rw [decide_eq_false h3]; simp), List.append_nil]
set_option maxRecDepth 100000 in
set_option maxHeartbeats 6400000 in
theorem lead_walk (A : Option Addr) (c : Nat) (zs : List Int) (w : World) (D : Dor w) (hr : Row .i64 w w.heap.size A zs) (hm : zs.length ≤ maxLen) (hw : ∀ n ∈ zs, (Lit.int .i64 n).wf = true) :
    Calls Tryd.prog 7 #[.slice A zs.length c] w (BoolPost true w) := by
  have K := Lib.hid (mk_row (c := c) (T := 49) hr hm hw)
  have B := Lib.hid ((Below.refl w.heap.size w).alloc (Nat.le_refl _) (.cells #[.slice A zs.length c, .int .i64 0] 49))
  obtain ⟨m, hmm⟩ : ∃ m, m = w.heap.size := ⟨_, rfl⟩
  have HMM := Lib.hid hmm
  have DD := Lib.hid D
  clear hr hw D
  go_enter Tryd.func7, Tryd.ntmps7
  go_wp2_with fail
  refine (new_any A zs.length c w).mono ?_
  rintro e w1 ⟨rfl, hw1⟩
  rw [← hw1] at K B
  rw [← hmm] at K ⊢
  clear hmm hw1 hm
  go_wp2_with fail
  refine (law_layout m 9 0 w w1 DD.out HMM.out K.out B.out (by omega) (by omega)).mono ?_
  rintro e w2 ⟨lA, lc, l, rfl, ⟨base, Y⟩, hl1, hl2⟩
  have Y2 := Lib.hid Y
  clear Y K B DD HMM
  have HTP := Lib.hid (TreeP.of Y2.out.ok)
  have hch : chkZ l [] = 0 := chk_of Y2.out.ok (fun z hz => by cases hz)
  have hp := tracks_any l lA lc w2 Y2.out.row
  rw [hch, show pairE 0 (trkZ l) = trkZ l from rfl] at hp
  have HP := Lib.hid hp
  have hne := trk_ne Y2.out.ok
  have hln : (trkZ l).length ≤ l.length := idx_len _ _
  have HMEM := Lib.hid (fun x (h : x ∈ trkZ l) => trk_mem.1 h)
  clear hch hp
  generalize trkZ l = ts at *
  go_wp2_with fail
  refine HP.out.mono ?_
  rintro e w3 ⟨v, rfl, O, B3⟩
  obtain ⟨g, tc, rfl, htc, hg1, hg2, _⟩ := own_some O hne
  have Y3 := Lib.hid (Y2.out.below B3)
  have OO := Lib.hid O
  have hm3 : m < w2.heap.size := Y2.out.kk.lt
  obtain ⟨T, hT⟩ : ∃ n, n = ts.length := ⟨_, rfl⟩
  have HT := Lib.hid hT
  have hT0 : ((T : Int) == 0) = false := beq_eq_false_iff_ne.2 (by omega)
  have hT1 : 1 ≤ T := by omega
  have hT2 : T ≤ 76 := by omega
  rw [← hT] at htc ⊢
  clear O B3 HP Y2 hT hne hln
  go_wp2_with fail
  refine (next_any m _ (T : Int) _ Y3.out.kk (by omega) (by omega) (by omega)).mono ?_
  rintro e w4 ⟨xi, rfl, xi1, xi2, k1, k2⟩
  have Y4 := Lib.hid (Y3.out.moves k2 k1)
  have hO := OO.out.moves k2 hm3
  obtain ⟨x0, rfl⟩ := Int.eq_ofNat_of_zero_le xi1
  have hx0 : (x0 : Int) < (T : Int) := by omega
  have bx := hO.cell rfl x0 (by have := HT.out; omega)
  have hxm := HMEM.out (ts.getD x0 0) (getD_mem (by have := HT.out; omega))
  generalize ts.getD x0 0 = x at *
  have HXM := Lib.hid hxm
  have hchx : chkZ l [x] = 0 := chk_of Y4.out.ok (fun z hz => by simp at hz; subst hz; omega)
  have hs := settings_any l lA lc x w4 Y4.out.row
  rw [hchx, show pairQ 0 (setZ l x) = setZ l x from rfl] at hs
  have HS := Lib.hid hs
  clear k1 k2 hO hxm hchx hs HMEM OO Y3 hT0
  go_wp2_with fail
  refine HS.out.mono ?_
  rintro e w5 ⟨vs, rfl, P, B5⟩
  obtain ⟨sA, sc, rfl, RP⟩ := P.slice
  have HRP := Lib.hid RP
  have Y5 := Lib.hid (Y4.out.below B5)
  have hslm : (setZ l x).length ≤ maxLen := RP.len
  unfold maxLen at hslm
  obtain ⟨S, hS⟩ : ∃ n, n = (setZ l x).length := ⟨_, rfl⟩
  have HSL := Lib.hid hS
  rw [← hS] at hslm ⊢
  obtain ⟨L, hL⟩ : ∃ n, n = l.length := ⟨_, rfl⟩
  have HLL := Lib.hid hL
  rw [← hL] at hl1 hl2 ⊢
  clear P RP B5 HS Y4 bx hS hL
  go_wp2_with fail
  go_loopw [10, 11] (fun av nv wr => (∃ n, wr = w5.drewN n) ∧ ∃ (p a n : Nat), av = .int .i64 (a : Int) ∧ nv = .int .i64 (n : Int) ∧ a < L ∧ n ≤ S ∧ Hid ((wayZ l x)[p]? = some (a : Int)) ∧ Hid (n = (setL l ((wayZ l x).take (p + 1))).length)) (fun av _ _ => L - (intOf av).toNat)
  case atStart =>
    have hh := way_head HTP.out.par HXM.out.1 HXM.out.2.1
    refine ⟨⟨0, rfl⟩, 0, 0, 0, rfl, rfl, by omega, by omega, Lib.hid hh, Lib.hid ?_⟩
    have : (wayZ l x).take 1 = [0] := by
      cases hw : wayZ l x with
      | nil => rw [hw] at hh; simp at hh
      | cons a r => rw [hw] at hh; simp at hh; subst hh; rfl
    rw [this]; rfl
  case round =>
    obtain ⟨⟨n7, hwn⟩, p, a, n, rfl, rfl, haL, hnS, HA, HN⟩ := hrel
    have HW := Lib.hid hwn
    have haL' : (a : Int) < (L : Int) := by omega
    obtain ⟨ex, hex, _, ek, _⟩ := el_at (l := l) (k := a) (by rw [← HLL.out]; exact haL)
    have Y6 := Lib.hid (show Ly w wr m base _ lA lc l by rw [hwn]; exact Y5.out.drewN n7)
    obtain ⟨ad, rfl, C⟩ := Y6.out.row.row.at_ hex
    have c0 := (ESpelt.of C).c0
    rw [← ek] at c0
    by_cases hk4 : kindA l (a : Int) = 4
    · obtain ⟨hax, hset⟩ := lead_end HTP.out HXM.out.1 HXM.out.2.1 HA.out hk4
      have hnS2 : n = S := by rw [HN.out, hset, HSL.out]
      rw [hk4] at c0
      subst hnS2
      clear C hex ek hk4 hset hwn HN HA HRP HXM
      subst hax
      go_wp2_with fail
      refine (sane_any _ Y6.out.dor).mono ?_
      rintro e w8 ⟨rfl, B8⟩
      have Y9 := Lib.hid (Y6.out.below B8).bel
      clear B8
      go_wp2_with fail
      go_ret
      exact ⟨rfl, Y9.out⟩
    · obtain ⟨z, hz, hpz, ha0, haz, hzL⟩ := lead_next HTP.out HXM.out.1 HXM.out.2.1 HXM.out.2.2 HA.out hk4
      have HZ := Lib.hid hz
      have HPZ := Lib.hid hpz
      have hz0 : (0 : Int) < (z : Int) := by omega
      have hpk := HTP.out.pk (z : Int) hz0 (by omega)
      rw [hpz] at hpk
      have HPK := Lib.hid hpk
      have HONE := Lib.hid (fun (k : Nat) (hk : k < l.length) (hk0 : 1 ≤ k) (hne : k ≠ z) (hpar : parA l (k : Int) = (a : Int)) => (show sideA l (k : Int) ≠ sideA l (z : Int) from fun e => by
        rcases Nat.lt_or_gt_of_ne hne with g | g
        · exact HTP.out.one (k : Int) (z : Int) (by omega) (by omega) (by omega) ⟨hpar.trans HPZ.out.symm, e⟩
        · exact HTP.out.one (z : Int) (k : Int) (by omega) (by omega) (by omega) ⟨HPZ.out.trans hpar.symm, e.symm⟩))
      have hk4b : (kindA l (a : Int) != 4) = true := bne_iff_ne.2 hk4
      have hzL2 : z < L := by rw [HLL.out]; exact hzL
      by_cases hk3 : kindA l (a : Int) = 3
      · obtain ⟨hs1, hs2⟩ := lead_step HZ.out hz0 (by rw [HPZ.out]; exact hk3)
        rw [← HN.out, HPZ.out] at hs1
        rw [← HN.out] at hs2
        have hnlt : n < S := by rw [HSL.out]; exact (List.getElem?_eq_some_iff.1 hs1).1
        have hnlt' : (n : Int) < (S : Int) := by omega
        obtain ⟨sd, hsd⟩ : ∃ sd, sd = sideA l (z : Int) := ⟨_, rfl⟩
        rw [← hsd] at hs1 HONE
        have HSD := Lib.hid hsd
        obtain ⟨qa, rfl, Q⟩ := HRP.out.at_ hs1
        have HN2 := Lib.hid hs2
        have d0 : wr.cell? (qa.add (n * 2)) = some (.int .i64 (a : Int)) := by rw [hwn]; exact (Q.drewN n7).first (R := QR) rfl
        have d1 : wr.cell? ⟨(qa.add (n * 2)).block, (qa.add (n * 2)).off + 1, none⟩ = some (.int .i64 sd) := by rw [hwn]; exact (Q.drewN n7).next (R := QR) 1 (by decide) rfl
        rw [hk3] at c0 hk4b
        clear C Q hex ek hk4 hwn hz hpz hpk hs1 hs2 hsd hk3
        go_wp2_with fail
        have HY7 := Lib.hid Y6.out
        generalize wr = wo at *
        go_loopw [13, 14] (fun xv kv wj => (∃ q, wj = wo.drewN q) ∧ ∃ (k : Nat) (nx : Int), 1 ≤ k ∧ k ≤ L ∧ kv = .int .i64 (k : Int) ∧ xv = .int .i64 nx ∧ Hid (nx = if z < k then (z : Int) else -1)) (fun _ kv _ => L - (intOf kv).toNat)
        case atStart => exact ⟨⟨0, rfl⟩, 1, -1, by omega, by omega, rfl, rfl, Lib.hid (by rw [if_neg (by omega)])⟩
        case round =>
          clear d0 d1 c0
          obtain ⟨⟨q7, hwq⟩, k, nx, hk1, hkL, rfl, rfl, HX⟩ := hrel
          have HWQ := Lib.hid hwq
          by_cases hlt : k < L
          · have hlt' : (k : Int) < (L : Int) := by omega
            obtain ⟨ey, hey, e1, _, e3⟩ := el_at (l := l) (k := k) (by rw [← HLL.out]; exact hlt)
            have HRR : LRow wr (some ad) lc l := by rw [hwq]; exact (HY7.out.drewN q7).row
            obtain ⟨ad', hA', CK⟩ := HRR.row.at_ hey
            injection hA' with hA'
            subst hA'
            have c2 := (ESpelt.of CK).c2
            have c3 := (ESpelt.of CK).c3
            rw [← e1] at c2
            rw [← e3] at c3
            by_cases hkz : k = z
            · subst hkz
              rw [HPZ.out] at c2
              rw [← HSD.out] at c3
              have HX2 := Lib.hid (show (k : Int) = if k < k + 1 then (k : Int) else -1 by rw [if_pos (by omega)])
              clear HRR CK hey e1 e3 HX hwq
              go_wp2_with fail
              go_roundw
              case rel => exact ⟨⟨q7, HWQ.out⟩, k + 1, (k : Int), by omega, by omega, by go_num, rfl, HX2⟩
              case measure => simp [intOf]; omega
            · have HX2 := Lib.hid (show nx = if z < k + 1 then (z : Int) else -1 by
                rw [HX.out]
                by_cases g : z < k
                · rw [if_pos g, if_pos (by omega)]
                · rw [if_neg g, if_neg (by omega)])
              by_cases hpa : parA l (k : Int) = (a : Int)
              · have hsk := HONE.out k (by rw [← HLL.out]; exact hlt) hk1 hkz hpa
                rw [hpa] at c2
                have hskb : (sideA l (k : Int) == sd) = false := beq_eq_false_iff_ne.2 hsk
                generalize sideA l (k : Int) = sk at *
                clear HRR CK hey e1 e3 HX hwq hkz hpa hsk
                go_wp2_with fail
                go_roundw
                case rel => exact ⟨⟨q7, HWQ.out⟩, k + 1, nx, by omega, by omega, by go_num, rfl, HX2⟩
                case measure => simp [intOf]; omega
              · have hpb : (parA l (k : Int) == (a : Int)) = false := beq_eq_false_iff_ne.2 hpa
                generalize parA l (k : Int) = pk at *
                clear HRR CK hey e1 e3 HX hwq hkz hpa c3
                go_wp2_with fail
                go_roundw
                case rel => exact ⟨⟨q7, HWQ.out⟩, k + 1, nx, by omega, by omega, by go_num, rfl, HX2⟩
                case measure => simp [intOf]; omega
          · obtain rfl : k = L := by omega
            have hnz : nx = (z : Int) := by rw [HX.out, if_pos hzL2]
            subst hnz
            have HWW := Lib.hid (show ∃ n, wr = w5.drewN n from ⟨n7 + q7, by rw [hwq, HW.out, World.drewN_drewN]⟩)
            clear hwq HX
            go_wp2_with fail
            go_roundw
            case rel => exact ⟨HWW.out, p + 1, z, n + 1, rfl, by go_num, hzL2, by omega, HZ, Lib.hid HN2.out.symm⟩
            case measure => simp [intOf]; omega
      · have hk3b : (kindA l (a : Int) == 3) = false := beq_eq_false_iff_ne.2 hk3
        have hs2 := lead_skip HZ.out (by rw [HPZ.out]; exact hk3)
        rw [← HN.out] at hs2
        have HN2 := Lib.hid hs2
        have hsd0 : sideA l (z : Int) = 0 := Decidable.of_not_not fun g => hk3 (HPK.out.2.1 g)
        have HSD := Lib.hid hsd0.symm
        rw [hsd0] at HONE
        generalize kindA l (a : Int) = kd at *
        clear C hex ek hk4 hwn hz hpz hpk hs2 hk3 hsd0
        go_wp2_with fail
        have HY7 := Lib.hid Y6.out
        generalize wr = wo at *
        go_loopw [13, 14] (fun xv kv wj => (∃ q, wj = wo.drewN q) ∧ ∃ (k : Nat) (nx : Int), 1 ≤ k ∧ k ≤ L ∧ kv = .int .i64 (k : Int) ∧ xv = .int .i64 nx ∧ Hid (nx = if z < k then (z : Int) else -1)) (fun _ kv _ => L - (intOf kv).toNat)
        case atStart => exact ⟨⟨0, rfl⟩, 1, -1, by omega, by omega, rfl, rfl, Lib.hid (by rw [if_neg (by omega)])⟩
        case round =>
          clear c0
          obtain ⟨⟨q7, hwq⟩, k, nx, hk1, hkL, rfl, rfl, HX⟩ := hrel
          have HWQ := Lib.hid hwq
          by_cases hlt : k < L
          · have hlt' : (k : Int) < (L : Int) := by omega
            obtain ⟨ey, hey, e1, _, e3⟩ := el_at (l := l) (k := k) (by rw [← HLL.out]; exact hlt)
            have HRR : LRow wr (some ad) lc l := by rw [hwq]; exact (HY7.out.drewN q7).row
            obtain ⟨ad', hA', CK⟩ := HRR.row.at_ hey
            injection hA' with hA'
            subst hA'
            have c2 := (ESpelt.of CK).c2
            have c3 := (ESpelt.of CK).c3
            rw [← e1] at c2
            rw [← e3] at c3
            by_cases hkz : k = z
            · subst hkz
              rw [HPZ.out] at c2
              rw [← HSD.out] at c3
              have HX2 := Lib.hid (show (k : Int) = if k < k + 1 then (k : Int) else -1 by rw [if_pos (by omega)])
              clear HRR CK hey e1 e3 HX hwq
              go_wp2_with fail
              go_roundw
              case rel => exact ⟨⟨q7, HWQ.out⟩, k + 1, (k : Int), by omega, by omega, by go_num, rfl, HX2⟩
              case measure => simp [intOf]; omega
            · have HX2 := Lib.hid (show nx = if z < k + 1 then (z : Int) else -1 by
                rw [HX.out]
                by_cases g : z < k
                · rw [if_pos g, if_pos (by omega)]
                · rw [if_neg g, if_neg (by omega)])
              by_cases hpa : parA l (k : Int) = (a : Int)
              · have hsk := HONE.out k (by rw [← HLL.out]; exact hlt) hk1 hkz hpa
                rw [hpa] at c2
                have hskb : (sideA l (k : Int) == (0 : Int)) = false := beq_eq_false_iff_ne.2 hsk
                generalize sideA l (k : Int) = sk at *
                clear HRR CK hey e1 e3 HX hwq hkz hpa hsk
                go_wp2_with fail
                go_roundw
                case rel => exact ⟨⟨q7, HWQ.out⟩, k + 1, nx, by omega, by omega, by go_num, rfl, HX2⟩
                case measure => simp [intOf]; omega
              · have hpb : (parA l (k : Int) == (a : Int)) = false := beq_eq_false_iff_ne.2 hpa
                generalize parA l (k : Int) = pk at *
                clear HRR CK hey e1 e3 HX hwq hkz hpa c3
                go_wp2_with fail
                go_roundw
                case rel => exact ⟨⟨q7, HWQ.out⟩, k + 1, nx, by omega, by omega, by go_num, rfl, HX2⟩
                case measure => simp [intOf]; omega
          · obtain rfl : k = L := by omega
            have hnz : nx = (z : Int) := by rw [HX.out, if_pos hzL2]
            subst hnz
            have HWW := Lib.hid (show ∃ n, wr = w5.drewN n from ⟨n7 + q7, by rw [hwq, HW.out, World.drewN_drewN]⟩)
            clear hwq HX
            go_wp2_with fail
            go_roundw
            case rel => exact ⟨HWW.out, p + 1, z, n, rfl, rfl, hzL2, by omega, HZ, Lib.hid HN2.out.symm⟩
            case measure => simp [intOf]; omega
end Go.Proofs.YteeoecegpnmafaaDoor
