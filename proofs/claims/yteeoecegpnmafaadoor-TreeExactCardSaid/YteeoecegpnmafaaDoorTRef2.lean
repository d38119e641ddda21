/-
  Stage 10: the reference's Tracks, Common, Settings.
-/
import Derived.Test.YteeoecegpnmafaaDoorTRef
import Derived.BigQuiet
set_option linter.unusedSimpArgs false
set_option linter.unusedVariables false
namespace Go.Proofs.YteeoecegpnmafaaDoor
open Go.RowKit Go.Lib

theorem chk_zero (l : List El) : chkZ l [0] = chkZ l [] := by
  by_cases h : validE l = 0
  · have hn := (valid_par h).2.1
    rw [chk_of h (fun z hz => by rw [List.mem_singleton.1 hz]; omega), chk_of h (fun z hz => by cases hz)]
  · unfold chkZ; rw [if_neg h, if_neg h]
theorem rtracks_any (l : List El) (A : Option Addr) (c : Nat) (w : World) (H : LRow w A c l) (hf : SzF l) :
    Calls Tryd.prog 24 #[.slice A l.length c] w (PairPost (pairE (chkZ l []) (trkZ l)) (chkZ l []) w) := by
  have hb := rbeyond_any l A c 0 w H hf
  have e : pairE (chkZ l [0]) (byZ l 0) = pairE (chkZ l []) (trkZ l) := by
    rw [chk_zero]
    by_cases h : chkZ l [] = 0
    · unfold pairE; rw [if_pos h, if_pos h, by_zero (TreeP.of (chk_ok h).1)]
    · unfold pairE; rw [if_neg h, if_neg h]
  rw [e, chk_zero] at hb
  have HB := Lib.hid hb
  clear hb H e
  go_enter Tryd.func24, Tryd.ntmps24
  go_wp2_with fail
  refine HB.out.mono ?_
  rintro e w1 ⟨v, rfl, O, B⟩
  have HO := Lib.hid O
  have HW := Lib.hid B
  clear O B HB
  go_wp2_with fail
  go_ret2
  exact ⟨v, rfl, HO.out, HW.out⟩
theorem com_lcp {l : List El} (hp : Par l) {i k : Int} (hi : 0 ≤ i ∧ i < l.length) (hk : 0 ≤ k ∧ k < l.length) {n : Nat} (h1 : (wayZ l i).take n = (wayZ l k).take n) (hn : 1 ≤ n) (hna : n ≤ (wayZ l i).length) (hnb : n ≤ (wayZ l k).length)
    (hd : ¬ (n < (wayZ l i).length ∧ n < (wayZ l k).length ∧ (wayZ l i)[n]? = (wayZ l k)[n]?)) : comZ l i k = (wayZ l i).getD (n - 1) 0 := by
  have hs : comZ l i k = lastZ (onZ l k) ((wayZ l i).take n) := by
    unfold comZ
    conv => lhs; rw [← List.take_append_drop n (wayZ l i)]
    refine lastZ_skip _ _ _ (fun z hz hon => ?_)
    have hzi := List.mem_of_mem_drop hz
    have hz0 := (way_bd hp hi.2 z hzi).1
    have hzk := (on_mem hp hk.2 hz0).1 hon
    obtain ⟨j, hj⟩ := List.mem_iff_getElem?.1 hz
    rw [List.getElem?_drop] at hj
    obtain ⟨m, hm⟩ := List.mem_iff_getElem?.1 hzk
    have t1 := way_take hp hi.2 hj
    have t2 := way_take hp hk.2 hm
    have l1 := (List.getElem?_eq_some_iff.1 hj).1
    have l2 := (List.getElem?_eq_some_iff.1 hm).1
    have hlen : n + j = m := by
      have := congrArg List.length (t1.trans t2.symm)
      rw [List.length_take, List.length_take] at this
      omega
    refine hd ⟨by omega, by omega, ?_⟩
    have hg : ((wayZ l i).take (n + j + 1))[n]? = ((wayZ l k).take (m + 1))[n]? := by rw [t1, t2]
    rw [List.getElem?_take_of_lt (by omega), List.getElem?_take_of_lt (by omega)] at hg
    exact hg
  have ht : (wayZ l i).take n = (wayZ l i).take (n - 1) ++ [(wayZ l i).getD (n - 1) 0] := by
    have := take_snocZ (zs := wayZ l i) (k := n - 1) (by omega)
    rwa [show n - 1 + 1 = n by omega] at this
  have hm : (wayZ l i).getD (n - 1) 0 ∈ wayZ l k := by
    have : (wayZ l i).getD (n - 1) 0 ∈ (wayZ l k).take n := by rw [← h1, ht]; simp
    exact List.mem_of_mem_take this
  have hb := (way_bd hp hk.2 _ hm).1
  rw [hs, ht, lastZ_snoc, if_pos ((on_mem hp hk.2 hb).2 hm)]
theorem chk_two1 {l : List El} {i k : Int} (h : chkZ l [i] ≠ 0) : chkZ l [i, k] = chkZ l [i] := by
  by_cases hv : validE l = 0
  · unfold chkZ at h ⊢
    rw [if_pos hv] at h ⊢
    rw [if_pos hv]
    by_cases g : inR l i = true
    · simp [g] at h
    · simp [g]
  · unfold chkZ; rw [if_neg hv, if_neg hv]
theorem chk_two2 {l : List El} {i k : Int} (h : chkZ l [i] = 0) : chkZ l [i, k] = chkZ l [k] := by
  obtain ⟨hv, hi⟩ := chk_ok h
  have g : inR l i = true := by have := hi i (by simp); unfold inR; simpa using this
  unfold chkZ
  rw [if_pos hv, if_pos hv]
  simp [g]
set_option maxRecDepth 100000 in
set_option maxHeartbeats 3200000 in
theorem rcommon_any (l : List El) (A : Option Addr) (c : Nat) (i k : Int) (w : World) (H : LRow w A c l) (hf : SzF l) :
    Calls Tryd.prog 26 #[.slice A l.length c, .int .i64 i, .int .i64 k] w (ComPost (commE (chkZ l [i, k]) (comZ l i k)) (chkZ l [i, k]) w) := by
  have HC := Lib.hid (rcheck_any l A c i w H hf)
  have HC2 := Lib.hid (fun (W : World) (b : Below w.heap.size w W) => rcheck_any l A c k W (H.below b) hf)
  have HH := Lib.hid H
  clear H
  go_enter Tryd.func26, Tryd.ntmps26
  go_wp2_with fail
  refine HC.out.mono ?_
  rintro e w1 ⟨rfl, B1⟩
  have B := Lib.hid B1
  clear B1 HC
  by_cases he : chkZ l [i] = 0
  · have HE1 := Lib.hid (chk_two2 (k := k) he)
    have HHE := Lib.hid he
    have HD2 := Lib.hid (HC2.out w1 B.out)
    rw [he]
    clear he HC2
    go_wp2_with fail
    refine HD2.out.mono ?_
    rintro e w2 ⟨rfl, B2⟩
    have BB := Lib.hid (B.out.trans (B2.mono B.out.size))
    clear B2 HD2 B
    rw [HE1.out]
    by_cases hk : chkZ l [k] = 0
    · obtain ⟨p1, p2, p3⟩ := valid_par (chk_ok hk).1
      have hi := (chk_ok HHE.out).2 i (by simp)
      have hkk := (chk_ok hk).2 k (by simp)
      have HE0 := Lib.hid (show commE (chkZ l [k]) (comZ l i k) = comZ l i k ∧ chkZ l [k] = 0 from ⟨if_pos hk, hk⟩)
      have HW1 := Lib.hid (rway_any l A c p1 p3 _ i w2 (HH.out.below BB.out).row (by omega) hi.2 (Nat.le_refl _))
      have HW2 := Lib.hid (fun (W : World) (b : Below w2.heap.size w2 W) => rway_any l A c p1 p3 _ k W (HH.out.below (BB.out.trans (b.mono BB.out.size))).row (by omega) hkk.2 (Nat.le_refl _))
      have hln1 := Nat.le_trans (way_len p1 hi.2) p3
      have hln2 := Nat.le_trans (way_len p1 hkk.2) p3
      have HLC := Lib.hid (fun (n : Nat) h1 hn hna hnb hd => com_lcp p1 hi hkk (n := n) h1 hn hna hnb hd)
      have hh1 := way_head p1 hi.1 hi.2
      have hh2 := way_head p1 hkk.1 hkk.2
      have HH1 := Lib.hid (And.intro hh1 hh2)
      rw [hk]
      clear hk p1 p2 p3 hi hkk hh1 hh2
      go_wp2_with fail
      refine HW1.out.mono ?_
      rintro e w3 ⟨va, rfl, Oa, B3⟩
      have HOa := Lib.hid Oa
      have HB3 := Lib.hid B3
      have HW3 := Lib.hid (HW2.out w3 B3)
      clear Oa B3 HW1 HW2
      go_wp2_with fail
      refine HW3.out.mono ?_
      rintro e w4 ⟨vb, rfl, Ob, B4⟩
      obtain ⟨bA, bc, rfl, Rb, _⟩ := Ob.slice
      obtain ⟨aA, ac, rfl, Ra, _⟩ := (HOa.out.below B4).slice
      have HRa := Lib.hid Ra
      have HRb := Lib.hid Rb
      have HB5 := Lib.hid (BB.out.trans ((HB3.out.trans (B4.mono HB3.out.size)).mono BB.out.size))
      clear Ob B4 Ra Rb HW3 HB3 HOa BB
      generalize comZ l i k = cz at *
      generalize wayZ l i = za at *
      generalize wayZ l k = zb at *
      obtain ⟨La, hLa⟩ : ∃ n, n = za.length := ⟨_, rfl⟩
      obtain ⟨Lb, hLb⟩ : ∃ n, n = zb.length := ⟨_, rfl⟩
      have HLa := Lib.hid hLa
      have HLb := Lib.hid hLb
      rw [← hLa] at hln1 HLC ⊢
      rw [← hLb] at hln2 HLC ⊢
      clear hLa hLb
      go_wp2_with fail
      go_loopw [12] (fun nv wr => (∃ q, wr = w4.drewN q) ∧ ∃ n : Nat, n ≤ La ∧ n ≤ Lb ∧ nv = .int .i64 (n : Int) ∧ Hid (za.take n = zb.take n)) (fun nv _ => La - (intOf nv).toNat)
      case atStart => exact ⟨⟨0, rfl⟩, 0, by omega, by omega, rfl, Lib.hid rfl⟩
      case round =>
        obtain ⟨⟨q, hwn⟩, n, hna, hnb, rfl, HT⟩ := hrel
        have HW := Lib.hid hwn
        have hpos : ¬ (n < La ∧ n < Lb ∧ za[n]? = zb[n]?) → 1 ≤ n := fun hd => by
          refine Nat.pos_of_ne_zero (fun g => hd ?_)
          subst g
          have h1 := (List.getElem?_eq_some_iff.1 HH1.out.1).1
          have h2 := (List.getElem?_eq_some_iff.1 HH1.out.2).1
          exact ⟨by have := HLa.out; omega, by have := HLb.out; omega, by rw [HH1.out.1, HH1.out.2]⟩
        have HPO := Lib.hid hpos
        have HFIN := Lib.hid (fun (hd : ¬ (n < La ∧ n < Lb ∧ za[n]? = zb[n]?)) => HLC.out n HT.out (hpos hd) hna hnb hd)
        have HRD := Lib.hid (fun (j : Nat) (hj : j < La) => (show ∃ ad : Addr, aA = some ad ∧ wr.cell? (ad.add j) = some (.int .i64 (za.getD j 0)) from by
          obtain ⟨ad, e, _, hc⟩ := HRa.out j (by rw [← HLa.out]; exact hj)
          exact ⟨ad, e, by rw [hwn]; exact hc⟩))
        have HBE := Lib.hid (show Below w.heap.size w wr by rw [hwn]; exact bdn HB5.out)
        clear hpos
        by_cases h1 : n < La
        · by_cases h2 : n < Lb
          · obtain ⟨ad, hA, ca⟩ := HRD.out n h1
            obtain ⟨bd, hB, _, cb0⟩ := HRb.out n (by rw [← HLb.out]; exact h2)
            have cb : wr.cell? (bd.add n) = some (.int .i64 (zb.getD n 0)) := by rw [hwn]; exact cb0
            subst hA
            subst hB
            have ea : za[n]? = some (za.getD n 0) := by rw [List.getD_eq_getElem?_getD, List.getElem?_eq_getElem (by rw [← HLa.out]; exact h1)]; rfl
            have eb : zb[n]? = some (zb.getD n 0) := by rw [List.getD_eq_getElem?_getD, List.getElem?_eq_getElem (by rw [← HLb.out]; exact h2)]; rfl
            have HT2 := Lib.hid (fun (h : za.getD n 0 = zb.getD n 0) => (show za.take (n + 1) = zb.take (n + 1) by
              rw [take_snocZ (by rw [← HLa.out]; exact h1), take_snocZ (by rw [← HLb.out]; exact h2), HT.out, h]))
            have HD := Lib.hid (fun (h : za.getD n 0 ≠ zb.getD n 0) => (show ¬ (n < La ∧ n < Lb ∧ za[n]? = zb[n]?) from fun g => h (by rw [ea, eb] at g; injection g.2.2)))
            clear ea eb cb0 hwn
            generalize hua : za.getD n 0 = ua at *
            generalize zb.getD n 0 = ub at *
            have i1 : (n : Int) < (La : Int) := by omega
            have i2 : (n : Int) < (Lb : Int) := by omega
            have j1 : decide (n < La) = true := decide_eq_true h1
            have j2 : decide (n < Lb) = true := decide_eq_true h2
            by_cases hu : ua = ub
            · have HT3 := Lib.hid (HT2.out hu)
              subst hu
              clear h1 h2 hua
              go_upto_region 9 with fail
              go_quiet (fail)
              clear ca cb
              go_wp2_with fail
              go_roundw
              case rel => exact ⟨by obtain rfl := HW.out; exact ⟨q + nq, by rw [World.drewN_drewN]⟩, n + 1, by omega, by omega, by go_num, HT3⟩
              case measure => simp [intOf]; omega
            · have hub : (ua == ub) = false := beq_eq_false_iff_ne.2 hu
              have hn1 := HPO.out (HD.out hu)
              have HF := Lib.hid (HFIN.out (HD.out hu))
              clear h1 h2 hu hua
              go_upto_region 9 with fail
              go_quiet (fail)
              clear ca cb i1 i2 j1 j2 hub HT HT2 HD HFIN HPO HRb
              obtain ⟨j, rfl⟩ : ∃ j, n = j + 1 := ⟨n - 1, by omega⟩
              obtain ⟨ad', hA', cj⟩ := HRD.out j (by omega)
              injection hA' with hA'
              subst hA'
              rw [Nat.add_sub_cancel] at HF
              clear HRD
              generalize za.getD j 0 = uj at *
              go_wp2_with fail
              go_ret2
              have e0 : commE (chkZ l [i, k]) cz = uj ∧ chkZ l [i, k] = 0 := by rw [HE1.out]; exact ⟨HE0.out.1.trans HF.out, HE0.out.2⟩
              rw [e0.1, e0.2]
              exact ⟨rfl, bdn HBE.out⟩
          · have hn1 := HPO.out (fun g => h2 g.2.1)
            have HF := Lib.hid (HFIN.out (fun g => h2 g.2.1))
            have i1 : (n : Int) < (La : Int) := by omega
            have i2 : ¬ (n : Int) < (Lb : Int) := by omega
            have j1 : decide (n < La) = true := decide_eq_true h1
            have j2 : decide (n < Lb) = false := decide_eq_false h2
            clear h1 h2 hwn
            go_upto_region 9 with fail
            go_quiet (fail)
            clear i1 i2 j1 j2 HT HFIN HPO HRb
            obtain ⟨j, rfl⟩ : ∃ j, n = j + 1 := ⟨n - 1, by omega⟩
            obtain ⟨ad, hA, cj⟩ := HRD.out j (by omega)
            subst hA
            rw [Nat.add_sub_cancel] at HF
            clear HRD
            generalize za.getD j 0 = uj at *
            go_wp2_with fail
            go_ret2
            have e0 : commE (chkZ l [i, k]) cz = uj ∧ chkZ l [i, k] = 0 := by rw [HE1.out]; exact ⟨HE0.out.1.trans HF.out, HE0.out.2⟩
            rw [e0.1, e0.2]
            exact ⟨rfl, bdn HBE.out⟩
        · have hn1 := HPO.out (fun g => h1 g.1)
          have HF := Lib.hid (HFIN.out (fun g => h1 g.1))
          have i1 : ¬ (n : Int) < (La : Int) := by omega
          have j1 : decide (n < La) = false := decide_eq_false h1
          clear h1 hwn
          go_upto_region 9 with fail
          go_quiet (fail)
          clear i1 j1 HT HFIN HPO HRb
          obtain ⟨j, rfl⟩ : ∃ j, n = j + 1 := ⟨n - 1, by omega⟩
          obtain ⟨ad, hA, cj⟩ := HRD.out j (by omega)
          subst hA
          rw [Nat.add_sub_cancel] at HF
          clear HRD
          generalize za.getD j 0 = uj at *
          go_wp2_with fail
          go_ret2
          have e0 : commE (chkZ l [i, k]) cz = uj ∧ chkZ l [i, k] = 0 := by rw [HE1.out]; exact ⟨HE0.out.1.trans HF.out, HE0.out.2⟩
          rw [e0.1, e0.2]
          exact ⟨rfl, bdn HBE.out⟩
    · go_wp2_with fail
      go_ret2
      have e1 : commE (chkZ l [i, k]) (comZ l i k) = 0 := by rw [HE1.out]; exact if_neg hk
      rw [e1, HE1.out]
      exact ⟨rfl, BB.out⟩
  · go_wp2_with fail
    go_ret2
    have e1 : commE (chkZ l [i, k]) (comZ l i k) = 0 := by rw [chk_two1 he]; exact if_neg he
    rw [e1, chk_two1 he]
    exact ⟨rfl, B.out⟩
end Go.Proofs.YteeoecegpnmafaaDoor
