/-
  Stage 10: the reference's Settings.
-/
import Derived.Test.YteeoecegpnmafaaDoorTRef2
set_option linter.unusedSimpArgs false
set_option linter.unusedVariables false
namespace Go.Proofs.YteeoecegpnmafaaDoor
open Go.RowKit Go.Lib

theorem getD_some {zs : List Int} {k : Nat} (h : k < zs.length) : zs[k]? = some (zs.getD k 0) := by
  rw [List.getD_eq_getElem?_getD, List.getElem?_eq_getElem h]; rfl
theorem set_one (l : List El) {zs : List Int} (h : zs[0]? = some 0) : setL l (zs.take 1) = [] := by
  cases zs with
  | nil => cases h
  | cons a t =>
    injection h with h
    subst h
    unfold setL
    rw [show (List.take 1 (0 :: t) : List Int) = [0] by simp]
    simp [isSet]
set_option maxHeartbeats 1600000 in
theorem rsettings_any (l : List El) (A : Option Addr) (c : Nat) (i : Int) (w : World) (H : LRow w A c l) (hf : SzF l) :
    Calls Tryd.prog 28 #[.slice A l.length c, .int .i64 i] w (SetPost (pairQ (chkZ l [i]) (setZ l i)) (chkZ l [i]) w) := by
  have HC := Lib.hid (rcheck_any l A c i w H hf)
  have HH := Lib.hid H
  clear H
  go_enter Tryd.func28, Tryd.ntmps28
  go_wp2_with fail
  refine HC.out.mono ?_
  rintro e w1 ⟨rfl, B1⟩
  have B := Lib.hid B1
  clear B1 HC
  by_cases he : chkZ l [i] = 0
  · obtain ⟨p1, p2, p3⟩ := valid_par (chk_ok he).1
    have HE0 := Lib.hid (show pairQ (chkZ l [i]) (setZ l i) = setL l (wayZ l i) ∧ chkZ l [i] = 0 from ⟨if_pos he, he⟩)
    have hi := (chk_ok he).2 i (by simp)
    have HWN := Lib.hid (fun (m : Nat) (x : Int) (h : (wayZ l i)[m + 1]? = some x) => way_next p1 hi.2 h)
    have HW0 := Lib.hid (way_head p1 hi.1 hi.2)
    have HWL := Lib.hid (Nat.le_trans (way_len p1 hi.2) p3)
    have HP := Lib.hid (rway_any l A c p1 p3 _ i w1 (HH.out.below B.out).row (by omega) hi.2 (Nat.le_refl _))
    rw [he]
    clear he hi p1 p2 p3
    go_wp2_with fail
    refine HP.out.mono ?_
    rintro e w3 ⟨v, rfl, O, B3⟩
    obtain ⟨zA, zc, rfl, R, _⟩ := O.slice
    have R3 := Lib.hid R
    have B4 := Lib.hid (B.out.trans (B3.mono B.out.size))
    clear O R B3 HP
    obtain ⟨zs, hzs⟩ : ∃ zs, zs = wayZ l i := ⟨_, rfl⟩
    rw [← hzs] at R3 HWN HW0 HWL HE0 ⊢
    have HS0 := Lib.hid (set_one l HW0.out)
    obtain ⟨K, hK⟩ : ∃ n, n = zs.length := ⟨_, rfl⟩
    have HK := Lib.hid hK
    have hK1 : 1 ≤ K := by have := (List.getElem?_eq_some_iff.1 HW0.out).1; omega
    have hKl : K ≤ 128 := by rw [hK]; exact HWL.out
    rw [← hK]
    clear hK hzs HWL HW0
    go_wp2_with fail
    go_loopw [7, 9] (fun av iv wr => ∃ (j : Nat), j + 1 ≤ K ∧ iv = .int .i64 (j : Int) ∧ (setL l (zs.take (j + 1))).length ≤ j ∧ Hid (ROwn QR 46 wr w3.heap.size av (setL l (zs.take (j + 1)))) ∧ Hid (Below w3.heap.size w3 wr)) (fun _ iv _ => K - (intOf iv).toNat)
    case atStart => exact ⟨0, by omega, rfl, by rw [HS0.out]; exact Nat.le_refl _, Lib.hid (by rw [HS0.out]; exact ROwn.nil), Lib.hid (Below.refl _ _)⟩
    case round =>
      obtain ⟨j, hj, rfl, hm, O, Bw⟩ := hrel
      by_cases hlt : j + 1 < K
      · obtain ⟨ad, rfl, hb, hc⟩ := R3.out j (by rw [← HK.out]; omega)
        obtain ⟨ad', e', hb', hc'⟩ := R3.out (j + 1) (by rw [← HK.out]; exact hlt)
        injection e' with e'
        subst e'
        have hc1 := (Bw.out.cell (p := ad.add j) (by rw [add_block]; exact hb)).trans hc
        have hc2 := (Bw.out.cell (p := ad.add (j + 1)) (by rw [add_block]; exact hb')).trans hc'
        have HT := Lib.hid (take_snocZ (show j + 1 < zs.length by rw [← HK.out]; exact hlt))
        have hx1 := HWN.out j (zs.getD (j + 1) 0) (getD_some (by rw [← HK.out]; exact hlt))
        rw [getD_some (show j < zs.length by rw [← HK.out]; omega)] at hx1
        obtain ⟨hpz, hp0, hpq, hql0⟩ := hx1
        injection hpz with hpz
        rw [hpz] at hc1
        have HL := Lib.hid (setL_snoc l (zs.take (j + 1)) (zs.getD (j + 1) 0))
        generalize zs.getD (j + 1) 0 = z at *
        obtain ⟨q, rfl⟩ := Int.eq_ofNat_of_zero_le (show 0 ≤ z by omega)
        have hql : q < l.length := by omega
        obtain ⟨p, hp⟩ := Int.eq_ofNat_of_zero_le hp0
        rw [hp] at hc1 hpq
        have hpl : p < l.length := by omega
        clear hc hb hc' hb' hpz hp0 hql0
        have hc3 : wr.cell? { block := ad.block, off := ad.off + (j + 1) } = some (.int .i64 (q : Int)) := hc2
        obtain ⟨x, hx, ex1, ex2, ex3⟩ := el_at hql
        obtain ⟨y, hy, ey1, ey2, ey3⟩ := el_at hpl
        have HRow := (HH.out.below (B4.out.trans (Bw.out.mono B4.out.size))).row
        obtain ⟨lad, rfl, C⟩ := HRow.at_ hx
        obtain ⟨lad', e', D⟩ := HRow.at_ hy
        injection e' with e'
        subst e'
        have c3 := (ESpelt.of C).c3
        have d0 := (ESpelt.of D).c0
        rw [← ex3] at c3
        rw [← ey2] at d0
        have hql' : (q : Int) < (l.length : Int) := by omega
        have hpl' : (p : Int) < (l.length : Int) := by omega
        have hg0 : (0 : Int) < (q : Int) := by omega
        have HS : isSet l (q : Int) = decide (kindA l (p : Int) = 3) := by unfold isSet; rw [decide_eq_true hg0, Bool.true_and, hp]
        rw [HS, hp] at HL
        generalize kindA l (p : Int) = kd at *
        generalize sideA l (q : Int) = sd at *
        have i1 : (j : Int) + 1 < (K : Int) := by omega
        have i2 : (j : Int) < (K : Int) := by omega
        have j1 : decide (j + 1 < K) = true := decide_eq_true hlt
        have i3 : ((j + 1 : Nat) : Int) < (K : Int) := by omega
        have i5 : (0 : Int) ≤ (j : Int) + 1 := by omega
        have i4 : IntKind.i64.wrap ((j : Int) + 1) = (j : Int) + 1 := IntWalk.i64_in _ (by omega)
        have j2 : decide (j < K) = true := decide_eq_true (by omega)
        have j3 : decide (q < l.length) = true := decide_eq_true hql
        have j4 : decide (p < l.length) = true := decide_eq_true hpl
        clear HRow C D hx hy ex1 ex2 ex3 ey1 ey2 ey3 HS hp hpq hg0
        by_cases h3 : kd = 3
        · have HL2 := Lib.hid (show setL l (zs.take (j + 1 + 1)) = setL l (zs.take (j + 1)) ++ [((p : Int), sd)] by
            rw [HT.out, HL.out, if_pos (by rw [h3]; rfl)])
          subst h3
          clear HL
          clear i4
          go_upto_region 10 with fail
          clear d0
          have i4 : IntKind.i64.wrap ((j : Int) + 1) = (j : Int) + 1 := IntWalk.i64_in _ (by omega)
          go_region_law (refine step_appQ _ rfl (.tmp 35) (.tmp 50) rfl w3.heap.size _ (setL l (zs.take (j + 1))) rfl (O.out.alloc _) ((p : Int), sd) wr.drew rfl _ rfl 1 rfl (by omega) (le_allocW (w := wr) Bw.out.size) ?_; intro v5 w5 A5; have O5 := Lib.hid A5.1; have B5 := Lib.hid (((show Below w3.heap.size w3 wr.drew from bdn (n := 1) Bw.out).alloc Bw.out.size (.cells #[.int .i64 (p : Int), .int .i64 sd] 46)).grown A5.2.1 (le_allocW (w := wr) Bw.out.size) (fun j hj => (O.out.block hj).1)); obtain ⟨_, _, g5, c5, rfl⟩ := A5)
          all_goals
            clear i4
            go_wp2_with fail
            go_roundw
            case rel => exact ⟨j + 1, by omega, by go_num, by rw [HL2.out, List.length_append]; simp; omega, by rw [HL2.out]; exact O5, B5⟩
            case measure => simp [intOf]; omega
        · have HL2 := Lib.hid (show setL l (zs.take (j + 1 + 1)) = setL l (zs.take (j + 1)) by
            rw [HT.out, HL.out, if_neg (by simpa using h3), List.append_nil])
          have h3' : (kd == 3) = false := beq_eq_false_iff_ne.2 h3
          clear HL h3 c3 hc2 hc3 i4
          go_wp2_with fail
          go_roundw
          case rel => exact ⟨j + 1, by omega, by go_num, by rw [HL2.out]; omega, by rw [HL2.out]; exact O, Bw⟩
          case measure => simp [intOf]; omega
      · obtain rfl : K = j + 1 := by omega
        have HF := Lib.hid (show zs.take (j + 1) = zs by rw [HK.out, List.take_length])
        go_wp2_with fail
        go_ret2
        rw [HE0.out.1, HE0.out.2]
        exact ⟨_, rfl, by rw [← HF.out]; exact O.out.base B4.out.size, B4.out.trans (Bw.out.mono B4.out.size)⟩
  · have HE := Lib.hid (show pairQ (chkZ l [i]) (setZ l i) = [] from if_neg he)
    have hne : (chkZ l [i] != 0) = true := bne_iff_ne.2 he
    clear he
    go_wp2_with fail
    go_ret2
    exact ⟨_, rfl, by rw [HE.out]; exact ROwn.nil, B.out⟩
end Go.Proofs.YteeoecegpnmafaaDoor
