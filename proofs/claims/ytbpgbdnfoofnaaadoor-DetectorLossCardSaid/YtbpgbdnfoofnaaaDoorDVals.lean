/-
  Stage 4: the reference's Values and Encode.
-/
import Derived.Test.YtbpgbdnfoofnaaaDoorDEnc
set_option linter.unusedSimpArgs false
set_option linter.unusedVariables false
namespace Go.Proofs.YtbpgbdnfoofnaaaDoor
open Go.RowKit

theorem getD_drop {l : List Pul} {i j : Nat} : (l.drop i).getD j (0, 0, 0) = l.getD (i + j) (0, 0, 0) := by
  rw [List.getD_eq_getElem?_getD, List.getElem?_drop, ← List.getD_eq_getElem?_getD]
theorem tim_drop {l : List Pul} {i : Nat} (h : i < l.length) : tim (l.drop i) = (l.getD i (0, 0, 0)).2.1 := by
  rw [drop_at h]; rfl
theorem PRowU.at_ {w : World} {B : Nat} {A : Option Addr} {l : List Pul} (h : PRowU w B A l) (hB : B ≤ w.heap.size) (k : Nat) (hk : k < l.length) : ∃ ad : Addr, A = some ad ∧ Cel w ad k (l.getD k (0, 0, 0)) := (h.p hB).at_ k hk
set_option maxRecDepth 100000 in
set_option maxHeartbeats 3200000 in
theorem vals_any (l : List Pul) (A : Option Addr) (c : Nat) (w : World) (h : PRow w A l) (ho : allP l) (hl : l.length ≤ 4096) :
    Calls Tryd.prog 24 #[.slice A l.length c] w fun e w' => ∃ v, e = .returned v ∧ Own .i64 3 w' w.heap.size v (valuesR l) ∧ Below w.heap.size w w' := by
  obtain ⟨i0, hi, hz0, hz1, hz2⟩ := info_parts infoInt
  have H := Lib.hid h.u
  have HO := Lib.hid ho
  have VL := Lib.hid (values_len l.length l (Nat.le_refl _)).1
  obtain ⟨L, hL⟩ : ∃ n, n = l.length := ⟨_, rfl⟩
  have HL := Lib.hid hL
  rw [← hL] at hl ⊢
  obtain ⟨B0, hB0⟩ : ∃ B, B = w.heap.size := ⟨_, rfl⟩
  have HB0 := Lib.hid hB0
  rw [← hB0] at H ⊢
  clear h ho hL hB0
  go_enter Tryd.func24, Tryd.ntmps24
  go_wp2_with fail
  go_loopw [3, 4] (fun v iv wr => ∃ (I : Nat) (zs : List Int), I ≤ L ∧ iv = .int .i64 (I : Int) ∧ Hid (Own .i64 3 wr B0 v zs ∧ valuesR l = zs ++ valuesR (l.drop I)) ∧ Hid (Below B0 w wr)) (fun _ iv _ => L - (intOf iv).toNat)
  case atStart => exact ⟨0, [], by omega, rfl, Lib.hid ⟨Own.nil, rfl⟩, Lib.hid (by rw [HB0.out]; exact Below.refl _ _)⟩
  case round =>
    obtain ⟨I, zs, hI, rfl, O, B⟩ := hrel
    have HBW := Lib.hid (show B0 ≤ wr.heap.size by have := B.out.size; rw [← HB0.out] at this; exact this)
    by_cases hlt : I < L
    · have hIl : I < l.length := by rw [← HL.out]; exact hlt
      obtain ⟨m, hm⟩ : ∃ m, m = l.drop I := ⟨_, rfl⟩
      have hml : m.length = L - I := by rw [hm, List.length_drop, ← HL.out]
      have hne : m ≠ [] := fun e => by rw [e] at hml; simp at hml; omega
      have hvs := values_step hne
      have hb := glen_bd hne
      have hg1 : glen m = 1 + more (bef m 1) (8 - 1) (m.drop 1) := by
        cases m with
        | nil => exact absurd rfl hne
        | cons p q => rfl
      have htm : tim m = (l.getD I (0, 0, 0)).2.1 := by rw [hm]; exact tim_drop hIl
      obtain ⟨j, hj⟩ : ∃ j, j = glen m := ⟨_, rfl⟩
      rw [← hj] at hvs hb hg1
      have hj1 : 1 ≤ j := hb.1
      have hj8 : j ≤ 8 := hb.2.1
      have hjL : I + j ≤ L := by have := hb.2.2; omega
      have HG1 := Lib.hid hg1
      have HVS := Lib.hid hvs
      have HM := Lib.hid hm
      have HJ := Lib.hid hj
      have HTM := Lib.hid htm
      have HML := Lib.hid hml
      have Lpos : 0 < L := by omega
      obtain ⟨ad, rfl, _⟩ := (H.out.under B.out).at_ HBW.out I hIl
      clear hm hml hne hvs hb hg1 hj htm hIl
      go_upto_region 5 with fail
      obtain ⟨wo, ewo⟩ : ∃ x, x = wr := ⟨_, rfl⟩
      subst ewo
      go_loopw [5] (fun nv wr => ∃ (n : Nat), 1 ≤ n ∧ n ≤ 8 ∧ I + n ≤ L ∧ nv = .int .i64 (n : Int) ∧ Hid (j = n + more (bef m n) (8 - n) (m.drop n)) ∧ Hid (∃ q, wr = wo.drewN q)) (fun nv _ => 8 - (intOf nv).toNat)
      case atStart => exact ⟨1, by omega, by omega, by omega, rfl, HG1, Lib.hid ⟨0, rfl⟩⟩
      case round =>
        clear HG1
        obtain ⟨n, hn1, hn8, hnL, rfl, V, Q⟩ := hrel
        obtain ⟨q, hq0⟩ := Q.out
        have hbq : Below B0 w wr := by rw [hq0]; exact bdn B.out
        have hoq : Own .i64 3 wr B0 u3 zs := by rw [hq0]; exact O.out.1.drewN q
        have hsq : B0 ≤ wr.heap.size := by rw [hq0]; exact HBW.out
        have HBQ := Lib.hid hbq
        have HOQ := Lib.hid hoq
        have HSQ := Lib.hid hsq
        clear hq0 hbq hoq hsq
        by_cases hgo : n < 8 ∧ I + n < L
        · obtain ⟨h8, hIL⟩ := hgo
          obtain ⟨p, hnp⟩ : ∃ p, n = p + 1 := ⟨n - 1, by omega⟩
          have hkl : I + n < l.length := by rw [← HL.out]; exact hIL
          have hpl : I + p < l.length := by omega
          have hpr : PRowU wr B0 (some ad) l := H.out.under HBQ.out
          obtain ⟨ad', e', C⟩ := hpr.at_ HSQ.out (I + n) hkl
          have ea : ad = ad' := by injection e'
          subst ea
          obtain ⟨ad', e', C'⟩ := hpr.at_ HSQ.out (I + p) hpl
          have ea : ad = ad' := by injection e'
          subst ea
          have hdm : m.drop n = l.getD (I + n) (0, 0, 0) :: m.drop (n + 1) := by
            rw [drop_at (show n < m.length by rw [HML.out]; omega), HM.out, getD_drop]
          have hbm : bef m n = (l.getD (I + p) (0, 0, 0)).2.1 := by
            rw [hnp]
            show (m.getD p (0, 0, 0)).2.1 = _
            rw [HM.out, getD_drop]
          have hbn : bef m (n + 1) = (l.getD (I + n) (0, 0, 0)).2.1 := by
            show (m.getD n (0, 0, 0)).2.1 = _
            rw [HM.out, getD_drop]
          obtain ⟨⟨d, tt, s⟩, hp⟩ : ∃ x, x = l.getD (I + n) (0, 0, 0) := ⟨_, rfl⟩
          obtain ⟨⟨d', t, s'⟩, hq⟩ : ∃ x, x = l.getD (I + p) (0, 0, 0) := ⟨_, rfl⟩
          have b1 := (HO.out.at_ hkl hp).2.1
          have b2 := (HO.out.at_ hpl hq).2.1
          rw [← hp] at C hdm hbn
          rw [← hq] at C' hbm
          have hv := V.out
          rw [hbm, HJ.out] at hv
          obtain ⟨g1, g2⟩ := glen_step (by omega) hdm hv
          have G1 := Lib.hid g1
          have G2 := Lib.hid g2
          have HBN := Lib.hid hbn
          obtain ⟨c0, c1, c2⟩ := C.spelt
          obtain ⟨e0, e1, e2⟩ := C'.spelt
          simp only at c0 c1 c2 e0 e1 e2
          obtain ⟨K, hK⟩ : ∃ K, K = I + p := ⟨_, rfl⟩
          have wt : IntKind.i64.wrap (tt - t) = tt - t := IntWalk.i64_in _ (by omega)
          have x1 : ((I : Int) + (n : Int)).toNat = I + n := by omega
          have x2 : (I : Int) + (n : Int) - 1 = (I : Int) + (p : Int) := by omega
          have x3 : IntKind.i64.wrap ((I : Int) + (n : Int)) = (I : Int) + (n : Int) := IntWalk.i64_in _ (by omega)
          have x4 : IntKind.i64.wrap ((I : Int) + (p : Int)) = (I : Int) + (p : Int) := IntWalk.i64_in _ (by omega)
          have x7 : ((I : Int) + (p : Int)).toNat = I + p := by omega
          have x8 : 0 ≤ (I : Int) + (p : Int) ∧ (I : Int) + (p : Int) < (L : Int) := by omega
          have x9 : 0 ≤ (I : Int) + (n : Int) := by omega
          have x5 : (n : Int) < 8 := by omega
          have x6 : (I : Int) + (n : Int) < (L : Int) := by omega
          clear hnp hp hq hdm hbm hbn hv V C C' e' g1 g2 hpr hkl hpl hK
          go_upto_region 5 with fail
          go_quiet (fail)
          clear c0 c1 c2 e0 e1 e2 x1 x2 x3 x4 x7 x8 x9
          by_cases hgt : tt - t ≤ 1023
          · have HV := Lib.hid (G1.out hgt)
            go_wp2_with fail
            go_roundw
            case rel => exact ⟨n + 1, by omega, by omega, by omega, by go_num, Lib.hid (by rw [HBN.out, HJ.out]; exact HV.out), by obtain ⟨q, rfl⟩ := Q.out; exact Lib.hid ⟨q + nq, by rw [World.drewN_drewN]⟩⟩
            case measure => simp [intOf]; omega
          · have ej : j = n := HJ.out.trans (G2.out hgt)
            subst ej
            clear G1 G2 HBN Q x5 x6 wt b1 b2
            -- the group's length is known: W, j
            have OW := Lib.hid (show Own .i64 3 (wr.drewN nq) B0 u3 zs from HOQ.out.drewN nq)
            have BW := Lib.hid (show Below B0 w (wr.drewN nq) from bdn HBQ.out)
            have SW := Lib.hid (show B0 ≤ (wr.drewN nq).heap.size from HSQ.out)
            obtain ⟨w1, ew1⟩ : ∃ x, x = (wr.drewN nq) := ⟨_, rfl⟩
            rw [← ew1] at OW BW SW ⊢
            clear ew1
            have hIl : I < l.length := by rw [← HL.out]; omega
            obtain ⟨ad', e', C⟩ := (H.out.under BW.out).at_ SW.out I hIl
            have ea : ad = ad' := by injection e'
            subst ea
            obtain ⟨⟨d, t, s⟩, hp⟩ : ∃ p, p = l.getD I (0, 0, 0) := ⟨_, rfl⟩
            have b1 := (HO.out.at_ hIl hp).2.1
            rw [← hp] at C
            have htm : tim m = t := HTM.out.trans (by rw [← hp])
            obtain ⟨T, hT⟩ : ∃ T : Nat, t = T := ⟨t.toNat, by omega⟩
            subst hT
            obtain ⟨c0, c1, c2⟩ := C.spelt
            simp only at c0 c1 c2
            have LZ := Lib.hid (show zs.length ≤ 24576 by
              have h1 := congrArg List.length O.out.2
              rw [List.length_append] at h1
              have := VL.out
              have := HL.out
              omega)
            have HT := Lib.hid htm
            have O2 := Lib.hid O.out.2
            clear hp C e' hIl htm
            go_wp2_with (first | (at_builtin; refine wpList_append_own _ rfl (.tmp 49) (.tmp 59) 22 rfl B0 3 i0 (.int .i64 0) 1 8 Tryd.underlying22 hi hz0 hz1 hz2 rfl (by decide) _ zs.length (zs.map (Value.int .i64)) rfl (OW.out.alloc _) ⟨w1.heap.size, 0, none⟩ 4 4 ([1536 + (j : Int), (T : Int) / 1048576, (T : Int) / 1024 % 1024, (T : Int) % 1024].map (Value.int .i64)) rfl rfl (news_int (W := w1) (ys := [1536 + (j : Int), (T : Int) / 1048576, (T : Int) / 1024 % 1024, (T : Int) % 1024])) (one_cells (ys := [1536 + (j : Int), (T : Int) / 1048576, (T : Int) / 1024 % 1024, (T : Int) % 1024])) (by unfold maxLen; have := LZ.out; omega) (by have := LZ.out; omega) (by have := SW.out; simp only [World.size_alloc]; omega) ?_; intro v2 w2 hown hg _))
            have AP := Own.app (ys := [1536 + (j : Int), (T : Int) / 1048576, (T : Int) / 1024 % 1024, (T : Int) % 1024]) hown rfl rfl
            have HD := Lib.hid (show hd j (T : Int) = [1536 + (j : Int), (T : Int) / 1048576, (T : Int) / 1024 % 1024, (T : Int) % 1024] from rfl)
            have HAP := Lib.hid AP
            have BN := Lib.hid ((BW.out.alloc SW.out (.cells #[.int .i64 (1536 + (j : Int)), .int .i64 ((T : Int) / 1048576), .int .i64 ((T : Int) / 1024 % 1024), .int .i64 ((T : Int) % 1024)] 3)).grown hg (by have := SW.out; simp only [World.size_alloc]; omega) (fun g hg => (own_block OW.out hg).1))
            clear hown hg AP c0 c1 c2
            obtain ⟨wi, ewi⟩ : ∃ x, x = w2 := ⟨_, rfl⟩
            subst ewi
            go_loopw [3, 6, 7] (fun v tv kv wr => ∃ (k : Nat), k ≤ j ∧ kv = .int .i64 ((I + k : Nat) : Int) ∧ tv = .int .i64 (bfr (T : Int) m k) ∧ Hid (Own .i64 3 wr B0 v (zs ++ (hd j (T : Int) ++ pv (T : Int) (m.take k)))) ∧ Hid (Below B0 w wr)) (fun _ _ kv _ => I + j - (intOf kv).toNat)
            case atStart => exact ⟨0, by omega, by go_num, rfl, Lib.hid (by rw [List.take_zero, HD.out]; show Own _ _ _ _ _ (zs ++ (_ ++ [])); rw [List.append_nil]; exact HAP.out), BN⟩
            case round =>
              clear HAP BN
              obtain ⟨k, hk, rfl, rfl, OO, BB⟩ := hrel
              have SB := Lib.hid (show B0 ≤ wr.heap.size by have := BB.out.size; rw [← HB0.out] at this; exact this)
              by_cases hkj : k < j
              · have hKl : I + k < l.length := by rw [← HL.out]; omega
                have hkm : k < m.length := by rw [HML.out]; omega
                obtain ⟨ad', e', C⟩ := (H.out.under BB.out).at_ SB.out (I + k) hKl
                have ea : ad = ad' := by injection e'
                subst ea
                have LB := Lib.hid (show ad.block < B0 from by obtain ⟨a2, e2, hb2, _⟩ := H.out.row 0 (by rw [flatP_len]; omega); have ea : ad = a2 := (by injection e2); rw [ea]; exact hb2)
                have SN := pv_succ (T : Int) m k hkm
                have egd : m.getD k (0, 0, 0) = l.getD (I + k) (0, 0, 0) := by rw [HM.out]; exact getD_drop
                have hbn : bfr (T : Int) m (k + 1) = (m.getD k (0, 0, 0)).2.1 := rfl
                rw [egd] at SN hbn
                have tb : 0 ≤ bfr (T : Int) m k ∧ bfr (T : Int) m k ≤ 1000000000 := by
                  cases k with
                  | zero => exact b1
                  | succ k' =>
                    have e2 : bfr (T : Int) m (k' + 1) = (l.getD (I + k') (0, 0, 0)).2.1 := by
                      show (m.getD k' (0, 0, 0)).2.1 = _
                      rw [HM.out, getD_drop]
                    rw [e2]
                    exact (HO.out _ (getD_memP (show I + k' < l.length by omega))).2.1
                obtain ⟨⟨d2, tt, s2⟩, hp⟩ : ∃ p, p = l.getD (I + k) (0, 0, 0) := ⟨_, rfl⟩
                have b2 := HO.out.at_ hKl hp
                rw [← hp] at C SN hbn
                obtain ⟨tp, htp⟩ : ∃ t, t = bfr (T : Int) m k := ⟨_, rfl⟩
                rw [← htp] at SN tb ⊢
                have HBN := Lib.hid hbn
                have HSN := Lib.hid SN
                obtain ⟨c0, c1, c2⟩ := C.spelt
                simp only at c0 c1 c2
                obtain ⟨K, hK⟩ : ∃ K, K = I + k := ⟨_, rfl⟩
                rw [← hK] at c0 c1 c2 hKl ⊢
                have hKL : K < L := by rw [HL.out]; exact hKl
                have hKi : (K : Int) < (I : Int) + (j : Int) := by omega
                have HK := Lib.hid hK
                obtain ⟨ys, hys⟩ : ∃ ys, ys = zs ++ (hd j (T : Int) ++ pv (T : Int) (m.take k)) := ⟨_, rfl⟩
                have LN := Lib.hid (show ys.length ≤ 24600 by
                  have := LZ.out
                  have hh : (hd j (T : Int)).length = 4 := by rw [HD.out]; rfl
                  rw [hys, List.length_append, List.length_append, pv_len, List.length_take, hh]; omega)
                have OY := Lib.hid (show Own .i64 3 wr B0 u3 ys by rw [hys]; exact OO.out)
                have YS := Lib.hid hys
                have CELL := Lib.hid (fun (w' : World) (o : Obj) (hg : (wr.alloc o).grownBy w' u3.ownBlock) => (show w'.cell? ⟨(ad.add (K * 3)).block, (ad.add (K * 3)).off + 1, none⟩ = some (.int .i64 tt) from
                  (((Below.refl B0 wr).alloc SB.out o).grown hg (by have := SB.out; simp only [World.size_alloc]; omega) (fun g hg => (own_block OY.out hg).1)).cell (p := ⟨(ad.add (K * 3)).block, (ad.add (K * 3)).off + 1, none⟩) (by rw [add_block]; exact LB.out) |>.trans c1))
                have wd : IntKind.i64.wrap (tt - tp) = tt - tp := IntWalk.i64_in _ (by omega)
                clear hp hbn hys htp C e' hkm OO SN hKl hK egd
                by_cases hs : s2 = 1
                · subst hs
                  have VP := Lib.hid (vp_one (d := d2) (t := tt) (s := 1) rfl)
                  go_wp2_with (first | (at_builtin; refine wpList_append_own _ rfl (.tmp 84) (.tmp 93) 22 rfl B0 3 i0 (.int .i64 0) 1 8 Tryd.underlying22 hi hz0 hz1 hz2 rfl (by decide) _ ys.length (ys.map (Value.int .i64)) rfl (OY.out.alloc _) ⟨wr.heap.size, 0, none⟩ 2 2 ([1024 + 2 * d2 + 1, tt - tp].map (Value.int .i64)) rfl rfl (news_int (W := wr) (ys := [1024 + 2 * d2 + 1, tt - tp])) (one_cells (ys := [1024 + 2 * d2 + 1, tt - tp])) (by unfold maxLen; have := LN.out; omega) (by have := LN.out; omega) (by have := SB.out; simp only [World.size_alloc]; omega) ?_; intro v3 w3 hown hg _; have hcl := CELL.out _ _ hg))
                  have AP := Own.app (ys := [1024 + 2 * d2 + 1, tt - tp]) hown rfl rfl
                  clear hcl c0 c1 c2
                  go_roundw
                  case rel =>
                    refine ⟨k + 1, by omega, (by have := HK.out; congr 1; omega), by rw [HBN.out], Lib.hid ?_, Lib.hid ?_⟩
                    · rw [HSN.out, VP.out, ← List.append_assoc, ← List.append_assoc, List.append_assoc zs, ← YS.out]; exact AP
                    · exact ((BB.out.alloc SB.out _).grown hg (by have := SB.out; simp only [World.size_alloc]; omega) (fun g hg => (own_block OY.out hg).1))
                  case measure => have := HK.out; simp [intOf]; omega
                · have hs' : (s2 == 1) = false := by rw [beq_eq_false_iff_ne]; exact hs
                  have VP := Lib.hid (vp_two (d := d2) (t := tt) hs)
                  go_wp2_with (first | (at_builtin; refine wpList_append_own _ rfl (.tmp 84) (.tmp 93) 22 rfl B0 3 i0 (.int .i64 0) 1 8 Tryd.underlying22 hi hz0 hz1 hz2 rfl (by decide) _ ys.length (ys.map (Value.int .i64)) rfl (OY.out.alloc _) ⟨wr.heap.size, 0, none⟩ 2 2 ([1024 + 2 * d2, tt - tp].map (Value.int .i64)) rfl rfl (news_int (W := wr) (ys := [1024 + 2 * d2, tt - tp])) (one_cells (ys := [1024 + 2 * d2, tt - tp])) (by unfold maxLen; have := LN.out; omega) (by have := LN.out; omega) (by have := SB.out; simp only [World.size_alloc]; omega) ?_; intro v3 w3 hown hg _; have hcl := CELL.out _ _ hg))
                  have AP := Own.app (ys := [1024 + 2 * d2, tt - tp]) hown rfl rfl
                  clear hcl c0 c1 c2
                  go_roundw
                  case rel =>
                    refine ⟨k + 1, by omega, (by have := HK.out; congr 1; omega), by rw [HBN.out], Lib.hid ?_, Lib.hid ?_⟩
                    · rw [HSN.out, VP.out, ← List.append_assoc, ← List.append_assoc, List.append_assoc zs, ← YS.out]; exact AP
                    · exact ((BB.out.alloc SB.out _).grown hg (by have := SB.out; simp only [World.size_alloc]; omega) (fun g hg => (own_block OY.out hg).1))
                  case measure => have := HK.out; simp [intOf]; omega
              · obtain rfl : k = j := by omega
                have e := HVS.out
                rw [HT.out] at e
                have OF := Lib.hid OO.out
                obtain ⟨K, hK⟩ : ∃ K, K = I + k := ⟨_, rfl⟩
                rw [← hK]
                have hKi : decide ((K : Int) < (I : Int) + (k : Int)) = false := decide_eq_false (by omega)
                have HE := Lib.hid e
                have HK := Lib.hid hK
                clear e OO hkj hk hK
                go_wp2_with fail
                go_roundw
                case rel =>
                  refine ⟨I + k, _, by omega, by go_num, Lib.hid ⟨OF.out, ?_⟩, BB⟩
                  rw [O2.out, ← HM.out, HE.out, HM.out, List.drop_drop]
                  simp only [List.append_assoc]
                case measure => simp [intOf]; omega
        · have ej : j = n := by
            have h1 := V.out
            have h2 : more (bef m n) (8 - n) (m.drop n) = 0 := by
              by_cases g : n < 8
              · rw [show n = m.length by rw [HML.out]; omega, List.drop_length, more_nil]
              · rw [show 8 - n = 0 by omega]; rfl
            omega
          have hgo' := hgo
          subst ej
          clear V Q hgo
          by_cases h8 : 8 ≤ j
          · have h8' : decide ((j : Int) < 8) = false := decide_eq_false (by omega)
            go_upto_region 5 with fail
            go_quiet (fail)
            clear h8'
            -- the group's length is known: W, j
            have OW := Lib.hid (show Own .i64 3 (wr.drewN nq) B0 u3 zs from HOQ.out.drewN nq)
            have BW := Lib.hid (show Below B0 w (wr.drewN nq) from bdn HBQ.out)
            have SW := Lib.hid (show B0 ≤ (wr.drewN nq).heap.size from HSQ.out)
            obtain ⟨w1, ew1⟩ : ∃ x, x = (wr.drewN nq) := ⟨_, rfl⟩
            rw [← ew1] at OW BW SW ⊢
            clear ew1
            have hIl : I < l.length := by rw [← HL.out]; omega
            obtain ⟨ad', e', C⟩ := (H.out.under BW.out).at_ SW.out I hIl
            have ea : ad = ad' := by injection e'
            subst ea
            obtain ⟨⟨d, t, s⟩, hp⟩ : ∃ p, p = l.getD I (0, 0, 0) := ⟨_, rfl⟩
            have b1 := (HO.out.at_ hIl hp).2.1
            rw [← hp] at C
            have htm : tim m = t := HTM.out.trans (by rw [← hp])
            obtain ⟨T, hT⟩ : ∃ T : Nat, t = T := ⟨t.toNat, by omega⟩
            subst hT
            obtain ⟨c0, c1, c2⟩ := C.spelt
            simp only at c0 c1 c2
            have LZ := Lib.hid (show zs.length ≤ 24576 by
              have h1 := congrArg List.length O.out.2
              rw [List.length_append] at h1
              have := VL.out
              have := HL.out
              omega)
            have HT := Lib.hid htm
            have O2 := Lib.hid O.out.2
            clear hp C e' hIl htm
            go_wp2_with (first | (at_builtin; refine wpList_append_own _ rfl (.tmp 49) (.tmp 59) 22 rfl B0 3 i0 (.int .i64 0) 1 8 Tryd.underlying22 hi hz0 hz1 hz2 rfl (by decide) _ zs.length (zs.map (Value.int .i64)) rfl (OW.out.alloc _) ⟨w1.heap.size, 0, none⟩ 4 4 ([1536 + (j : Int), (T : Int) / 1048576, (T : Int) / 1024 % 1024, (T : Int) % 1024].map (Value.int .i64)) rfl rfl (news_int (W := w1) (ys := [1536 + (j : Int), (T : Int) / 1048576, (T : Int) / 1024 % 1024, (T : Int) % 1024])) (one_cells (ys := [1536 + (j : Int), (T : Int) / 1048576, (T : Int) / 1024 % 1024, (T : Int) % 1024])) (by unfold maxLen; have := LZ.out; omega) (by have := LZ.out; omega) (by have := SW.out; simp only [World.size_alloc]; omega) ?_; intro v2 w2 hown hg _))
            have AP := Own.app (ys := [1536 + (j : Int), (T : Int) / 1048576, (T : Int) / 1024 % 1024, (T : Int) % 1024]) hown rfl rfl
            have HD := Lib.hid (show hd j (T : Int) = [1536 + (j : Int), (T : Int) / 1048576, (T : Int) / 1024 % 1024, (T : Int) % 1024] from rfl)
            have HAP := Lib.hid AP
            have BN := Lib.hid ((BW.out.alloc SW.out (.cells #[.int .i64 (1536 + (j : Int)), .int .i64 ((T : Int) / 1048576), .int .i64 ((T : Int) / 1024 % 1024), .int .i64 ((T : Int) % 1024)] 3)).grown hg (by have := SW.out; simp only [World.size_alloc]; omega) (fun g hg => (own_block OW.out hg).1))
            clear hown hg AP c0 c1 c2
            obtain ⟨wi, ewi⟩ : ∃ x, x = w2 := ⟨_, rfl⟩
            subst ewi
            go_loopw [3, 6, 7] (fun v tv kv wr => ∃ (k : Nat), k ≤ j ∧ kv = .int .i64 ((I + k : Nat) : Int) ∧ tv = .int .i64 (bfr (T : Int) m k) ∧ Hid (Own .i64 3 wr B0 v (zs ++ (hd j (T : Int) ++ pv (T : Int) (m.take k)))) ∧ Hid (Below B0 w wr)) (fun _ _ kv _ => I + j - (intOf kv).toNat)
            case atStart => exact ⟨0, by omega, by go_num, rfl, Lib.hid (by rw [List.take_zero, HD.out]; show Own _ _ _ _ _ (zs ++ (_ ++ [])); rw [List.append_nil]; exact HAP.out), BN⟩
            case round =>
              clear HAP BN
              obtain ⟨k, hk, rfl, rfl, OO, BB⟩ := hrel
              have SB := Lib.hid (show B0 ≤ wr.heap.size by have := BB.out.size; rw [← HB0.out] at this; exact this)
              by_cases hkj : k < j
              · have hKl : I + k < l.length := by rw [← HL.out]; omega
                have hkm : k < m.length := by rw [HML.out]; omega
                obtain ⟨ad', e', C⟩ := (H.out.under BB.out).at_ SB.out (I + k) hKl
                have ea : ad = ad' := by injection e'
                subst ea
                have LB := Lib.hid (show ad.block < B0 from by obtain ⟨a2, e2, hb2, _⟩ := H.out.row 0 (by rw [flatP_len]; omega); have ea : ad = a2 := (by injection e2); rw [ea]; exact hb2)
                have SN := pv_succ (T : Int) m k hkm
                have egd : m.getD k (0, 0, 0) = l.getD (I + k) (0, 0, 0) := by rw [HM.out]; exact getD_drop
                have hbn : bfr (T : Int) m (k + 1) = (m.getD k (0, 0, 0)).2.1 := rfl
                rw [egd] at SN hbn
                have tb : 0 ≤ bfr (T : Int) m k ∧ bfr (T : Int) m k ≤ 1000000000 := by
                  cases k with
                  | zero => exact b1
                  | succ k' =>
                    have e2 : bfr (T : Int) m (k' + 1) = (l.getD (I + k') (0, 0, 0)).2.1 := by
                      show (m.getD k' (0, 0, 0)).2.1 = _
                      rw [HM.out, getD_drop]
                    rw [e2]
                    exact (HO.out _ (getD_memP (show I + k' < l.length by omega))).2.1
                obtain ⟨⟨d2, tt, s2⟩, hp⟩ : ∃ p, p = l.getD (I + k) (0, 0, 0) := ⟨_, rfl⟩
                have b2 := HO.out.at_ hKl hp
                rw [← hp] at C SN hbn
                obtain ⟨tp, htp⟩ : ∃ t, t = bfr (T : Int) m k := ⟨_, rfl⟩
                rw [← htp] at SN tb ⊢
                have HBN := Lib.hid hbn
                have HSN := Lib.hid SN
                obtain ⟨c0, c1, c2⟩ := C.spelt
                simp only at c0 c1 c2
                obtain ⟨K, hK⟩ : ∃ K, K = I + k := ⟨_, rfl⟩
                rw [← hK] at c0 c1 c2 hKl ⊢
                have hKL : K < L := by rw [HL.out]; exact hKl
                have hKi : (K : Int) < (I : Int) + (j : Int) := by omega
                have HK := Lib.hid hK
                obtain ⟨ys, hys⟩ : ∃ ys, ys = zs ++ (hd j (T : Int) ++ pv (T : Int) (m.take k)) := ⟨_, rfl⟩
                have LN := Lib.hid (show ys.length ≤ 24600 by
                  have := LZ.out
                  have hh : (hd j (T : Int)).length = 4 := by rw [HD.out]; rfl
                  rw [hys, List.length_append, List.length_append, pv_len, List.length_take, hh]; omega)
                have OY := Lib.hid (show Own .i64 3 wr B0 u3 ys by rw [hys]; exact OO.out)
                have YS := Lib.hid hys
                have CELL := Lib.hid (fun (w' : World) (o : Obj) (hg : (wr.alloc o).grownBy w' u3.ownBlock) => (show w'.cell? ⟨(ad.add (K * 3)).block, (ad.add (K * 3)).off + 1, none⟩ = some (.int .i64 tt) from
                  (((Below.refl B0 wr).alloc SB.out o).grown hg (by have := SB.out; simp only [World.size_alloc]; omega) (fun g hg => (own_block OY.out hg).1)).cell (p := ⟨(ad.add (K * 3)).block, (ad.add (K * 3)).off + 1, none⟩) (by rw [add_block]; exact LB.out) |>.trans c1))
                have wd : IntKind.i64.wrap (tt - tp) = tt - tp := IntWalk.i64_in _ (by omega)
                clear hp hbn hys htp C e' hkm OO SN hKl hK egd
                by_cases hs : s2 = 1
                · subst hs
                  have VP := Lib.hid (vp_one (d := d2) (t := tt) (s := 1) rfl)
                  go_wp2_with (first | (at_builtin; refine wpList_append_own _ rfl (.tmp 84) (.tmp 93) 22 rfl B0 3 i0 (.int .i64 0) 1 8 Tryd.underlying22 hi hz0 hz1 hz2 rfl (by decide) _ ys.length (ys.map (Value.int .i64)) rfl (OY.out.alloc _) ⟨wr.heap.size, 0, none⟩ 2 2 ([1024 + 2 * d2 + 1, tt - tp].map (Value.int .i64)) rfl rfl (news_int (W := wr) (ys := [1024 + 2 * d2 + 1, tt - tp])) (one_cells (ys := [1024 + 2 * d2 + 1, tt - tp])) (by unfold maxLen; have := LN.out; omega) (by have := LN.out; omega) (by have := SB.out; simp only [World.size_alloc]; omega) ?_; intro v3 w3 hown hg _; have hcl := CELL.out _ _ hg))
                  have AP := Own.app (ys := [1024 + 2 * d2 + 1, tt - tp]) hown rfl rfl
                  clear hcl c0 c1 c2
                  go_roundw
                  case rel =>
                    refine ⟨k + 1, by omega, (by have := HK.out; congr 1; omega), by rw [HBN.out], Lib.hid ?_, Lib.hid ?_⟩
                    · rw [HSN.out, VP.out, ← List.append_assoc, ← List.append_assoc, List.append_assoc zs, ← YS.out]; exact AP
                    · exact ((BB.out.alloc SB.out _).grown hg (by have := SB.out; simp only [World.size_alloc]; omega) (fun g hg => (own_block OY.out hg).1))
                  case measure => have := HK.out; simp [intOf]; omega
                · have hs' : (s2 == 1) = false := by rw [beq_eq_false_iff_ne]; exact hs
                  have VP := Lib.hid (vp_two (d := d2) (t := tt) hs)
                  go_wp2_with (first | (at_builtin; refine wpList_append_own _ rfl (.tmp 84) (.tmp 93) 22 rfl B0 3 i0 (.int .i64 0) 1 8 Tryd.underlying22 hi hz0 hz1 hz2 rfl (by decide) _ ys.length (ys.map (Value.int .i64)) rfl (OY.out.alloc _) ⟨wr.heap.size, 0, none⟩ 2 2 ([1024 + 2 * d2, tt - tp].map (Value.int .i64)) rfl rfl (news_int (W := wr) (ys := [1024 + 2 * d2, tt - tp])) (one_cells (ys := [1024 + 2 * d2, tt - tp])) (by unfold maxLen; have := LN.out; omega) (by have := LN.out; omega) (by have := SB.out; simp only [World.size_alloc]; omega) ?_; intro v3 w3 hown hg _; have hcl := CELL.out _ _ hg))
                  have AP := Own.app (ys := [1024 + 2 * d2, tt - tp]) hown rfl rfl
                  clear hcl c0 c1 c2
                  go_roundw
                  case rel =>
                    refine ⟨k + 1, by omega, (by have := HK.out; congr 1; omega), by rw [HBN.out], Lib.hid ?_, Lib.hid ?_⟩
                    · rw [HSN.out, VP.out, ← List.append_assoc, ← List.append_assoc, List.append_assoc zs, ← YS.out]; exact AP
                    · exact ((BB.out.alloc SB.out _).grown hg (by have := SB.out; simp only [World.size_alloc]; omega) (fun g hg => (own_block OY.out hg).1))
                  case measure => have := HK.out; simp [intOf]; omega
              · obtain rfl : k = j := by omega
                have e := HVS.out
                rw [HT.out] at e
                have OF := Lib.hid OO.out
                obtain ⟨K, hK⟩ : ∃ K, K = I + k := ⟨_, rfl⟩
                rw [← hK]
                have hKi : decide ((K : Int) < (I : Int) + (k : Int)) = false := decide_eq_false (by omega)
                have HE := Lib.hid e
                have HK := Lib.hid hK
                clear e OO hkj hk hK
                go_wp2_with fail
                go_roundw
                case rel =>
                  refine ⟨I + k, _, by omega, by go_num, Lib.hid ⟨OF.out, ?_⟩, BB⟩
                  rw [O2.out, ← HM.out, HE.out, HM.out, List.drop_drop]
                  simp only [List.append_assoc]
                case measure => simp [intOf]; omega
          · have h8' : (j : Int) < 8 := by omega
            have h9' : decide ((I : Int) + (j : Int) < (L : Int)) = false := decide_eq_false (by omega)
            have x3 : IntKind.i64.wrap ((I : Int) + (j : Int)) = (I : Int) + (j : Int) := IntWalk.i64_in _ (by omega)
            go_upto_region 5 with fail
            go_quiet (fail)
            clear x3
            -- the group's length is known: W, j
            have OW := Lib.hid (show Own .i64 3 (wr.drewN nq) B0 u3 zs from HOQ.out.drewN nq)
            have BW := Lib.hid (show Below B0 w (wr.drewN nq) from bdn HBQ.out)
            have SW := Lib.hid (show B0 ≤ (wr.drewN nq).heap.size from HSQ.out)
            obtain ⟨w1, ew1⟩ : ∃ x, x = (wr.drewN nq) := ⟨_, rfl⟩
            rw [← ew1] at OW BW SW ⊢
            clear ew1
            have hIl : I < l.length := by rw [← HL.out]; omega
            obtain ⟨ad', e', C⟩ := (H.out.under BW.out).at_ SW.out I hIl
            have ea : ad = ad' := by injection e'
            subst ea
            obtain ⟨⟨d, t, s⟩, hp⟩ : ∃ p, p = l.getD I (0, 0, 0) := ⟨_, rfl⟩
            have b1 := (HO.out.at_ hIl hp).2.1
            rw [← hp] at C
            have htm : tim m = t := HTM.out.trans (by rw [← hp])
            obtain ⟨T, hT⟩ : ∃ T : Nat, t = T := ⟨t.toNat, by omega⟩
            subst hT
            obtain ⟨c0, c1, c2⟩ := C.spelt
            simp only at c0 c1 c2
            have LZ := Lib.hid (show zs.length ≤ 24576 by
              have h1 := congrArg List.length O.out.2
              rw [List.length_append] at h1
              have := VL.out
              have := HL.out
              omega)
            have HT := Lib.hid htm
            have O2 := Lib.hid O.out.2
            clear hp C e' hIl htm
            go_wp2_with (first | (at_builtin; refine wpList_append_own _ rfl (.tmp 49) (.tmp 59) 22 rfl B0 3 i0 (.int .i64 0) 1 8 Tryd.underlying22 hi hz0 hz1 hz2 rfl (by decide) _ zs.length (zs.map (Value.int .i64)) rfl (OW.out.alloc _) ⟨w1.heap.size, 0, none⟩ 4 4 ([1536 + (j : Int), (T : Int) / 1048576, (T : Int) / 1024 % 1024, (T : Int) % 1024].map (Value.int .i64)) rfl rfl (news_int (W := w1) (ys := [1536 + (j : Int), (T : Int) / 1048576, (T : Int) / 1024 % 1024, (T : Int) % 1024])) (one_cells (ys := [1536 + (j : Int), (T : Int) / 1048576, (T : Int) / 1024 % 1024, (T : Int) % 1024])) (by unfold maxLen; have := LZ.out; omega) (by have := LZ.out; omega) (by have := SW.out; simp only [World.size_alloc]; omega) ?_; intro v2 w2 hown hg _))
            have AP := Own.app (ys := [1536 + (j : Int), (T : Int) / 1048576, (T : Int) / 1024 % 1024, (T : Int) % 1024]) hown rfl rfl
            have HD := Lib.hid (show hd j (T : Int) = [1536 + (j : Int), (T : Int) / 1048576, (T : Int) / 1024 % 1024, (T : Int) % 1024] from rfl)
            have HAP := Lib.hid AP
            have BN := Lib.hid ((BW.out.alloc SW.out (.cells #[.int .i64 (1536 + (j : Int)), .int .i64 ((T : Int) / 1048576), .int .i64 ((T : Int) / 1024 % 1024), .int .i64 ((T : Int) % 1024)] 3)).grown hg (by have := SW.out; simp only [World.size_alloc]; omega) (fun g hg => (own_block OW.out hg).1))
            clear hown hg AP c0 c1 c2
            obtain ⟨wi, ewi⟩ : ∃ x, x = w2 := ⟨_, rfl⟩
            subst ewi
            go_loopw [3, 6, 7] (fun v tv kv wr => ∃ (k : Nat), k ≤ j ∧ kv = .int .i64 ((I + k : Nat) : Int) ∧ tv = .int .i64 (bfr (T : Int) m k) ∧ Hid (Own .i64 3 wr B0 v (zs ++ (hd j (T : Int) ++ pv (T : Int) (m.take k)))) ∧ Hid (Below B0 w wr)) (fun _ _ kv _ => I + j - (intOf kv).toNat)
            case atStart => exact ⟨0, by omega, by go_num, rfl, Lib.hid (by rw [List.take_zero, HD.out]; show Own _ _ _ _ _ (zs ++ (_ ++ [])); rw [List.append_nil]; exact HAP.out), BN⟩
            case round =>
              clear HAP BN
              obtain ⟨k, hk, rfl, rfl, OO, BB⟩ := hrel
              have SB := Lib.hid (show B0 ≤ wr.heap.size by have := BB.out.size; rw [← HB0.out] at this; exact this)
              by_cases hkj : k < j
              · have hKl : I + k < l.length := by rw [← HL.out]; omega
                have hkm : k < m.length := by rw [HML.out]; omega
                obtain ⟨ad', e', C⟩ := (H.out.under BB.out).at_ SB.out (I + k) hKl
                have ea : ad = ad' := by injection e'
                subst ea
                have LB := Lib.hid (show ad.block < B0 from by obtain ⟨a2, e2, hb2, _⟩ := H.out.row 0 (by rw [flatP_len]; omega); have ea : ad = a2 := (by injection e2); rw [ea]; exact hb2)
                have SN := pv_succ (T : Int) m k hkm
                have egd : m.getD k (0, 0, 0) = l.getD (I + k) (0, 0, 0) := by rw [HM.out]; exact getD_drop
                have hbn : bfr (T : Int) m (k + 1) = (m.getD k (0, 0, 0)).2.1 := rfl
                rw [egd] at SN hbn
                have tb : 0 ≤ bfr (T : Int) m k ∧ bfr (T : Int) m k ≤ 1000000000 := by
                  cases k with
                  | zero => exact b1
                  | succ k' =>
                    have e2 : bfr (T : Int) m (k' + 1) = (l.getD (I + k') (0, 0, 0)).2.1 := by
                      show (m.getD k' (0, 0, 0)).2.1 = _
                      rw [HM.out, getD_drop]
                    rw [e2]
                    exact (HO.out _ (getD_memP (show I + k' < l.length by omega))).2.1
                obtain ⟨⟨d2, tt, s2⟩, hp⟩ : ∃ p, p = l.getD (I + k) (0, 0, 0) := ⟨_, rfl⟩
                have b2 := HO.out.at_ hKl hp
                rw [← hp] at C SN hbn
                obtain ⟨tp, htp⟩ : ∃ t, t = bfr (T : Int) m k := ⟨_, rfl⟩
                rw [← htp] at SN tb ⊢
                have HBN := Lib.hid hbn
                have HSN := Lib.hid SN
                obtain ⟨c0, c1, c2⟩ := C.spelt
                simp only at c0 c1 c2
                obtain ⟨K, hK⟩ : ∃ K, K = I + k := ⟨_, rfl⟩
                rw [← hK] at c0 c1 c2 hKl ⊢
                have hKL : K < L := by rw [HL.out]; exact hKl
                have hKi : (K : Int) < (I : Int) + (j : Int) := by omega
                have HK := Lib.hid hK
                obtain ⟨ys, hys⟩ : ∃ ys, ys = zs ++ (hd j (T : Int) ++ pv (T : Int) (m.take k)) := ⟨_, rfl⟩
                have LN := Lib.hid (show ys.length ≤ 24600 by
                  have := LZ.out
                  have hh : (hd j (T : Int)).length = 4 := by rw [HD.out]; rfl
                  rw [hys, List.length_append, List.length_append, pv_len, List.length_take, hh]; omega)
                have OY := Lib.hid (show Own .i64 3 wr B0 u3 ys by rw [hys]; exact OO.out)
                have YS := Lib.hid hys
                have CELL := Lib.hid (fun (w' : World) (o : Obj) (hg : (wr.alloc o).grownBy w' u3.ownBlock) => (show w'.cell? ⟨(ad.add (K * 3)).block, (ad.add (K * 3)).off + 1, none⟩ = some (.int .i64 tt) from
                  (((Below.refl B0 wr).alloc SB.out o).grown hg (by have := SB.out; simp only [World.size_alloc]; omega) (fun g hg => (own_block OY.out hg).1)).cell (p := ⟨(ad.add (K * 3)).block, (ad.add (K * 3)).off + 1, none⟩) (by rw [add_block]; exact LB.out) |>.trans c1))
                have wd : IntKind.i64.wrap (tt - tp) = tt - tp := IntWalk.i64_in _ (by omega)
                clear hp hbn hys htp C e' hkm OO SN hKl hK egd
                by_cases hs : s2 = 1
                · subst hs
                  have VP := Lib.hid (vp_one (d := d2) (t := tt) (s := 1) rfl)
                  go_wp2_with (first | (at_builtin; refine wpList_append_own _ rfl (.tmp 84) (.tmp 93) 22 rfl B0 3 i0 (.int .i64 0) 1 8 Tryd.underlying22 hi hz0 hz1 hz2 rfl (by decide) _ ys.length (ys.map (Value.int .i64)) rfl (OY.out.alloc _) ⟨wr.heap.size, 0, none⟩ 2 2 ([1024 + 2 * d2 + 1, tt - tp].map (Value.int .i64)) rfl rfl (news_int (W := wr) (ys := [1024 + 2 * d2 + 1, tt - tp])) (one_cells (ys := [1024 + 2 * d2 + 1, tt - tp])) (by unfold maxLen; have := LN.out; omega) (by have := LN.out; omega) (by have := SB.out; simp only [World.size_alloc]; omega) ?_; intro v3 w3 hown hg _; have hcl := CELL.out _ _ hg))
                  have AP := Own.app (ys := [1024 + 2 * d2 + 1, tt - tp]) hown rfl rfl
                  clear hcl c0 c1 c2
                  go_roundw
                  case rel =>
                    refine ⟨k + 1, by omega, (by have := HK.out; congr 1; omega), by rw [HBN.out], Lib.hid ?_, Lib.hid ?_⟩
                    · rw [HSN.out, VP.out, ← List.append_assoc, ← List.append_assoc, List.append_assoc zs, ← YS.out]; exact AP
                    · exact ((BB.out.alloc SB.out _).grown hg (by have := SB.out; simp only [World.size_alloc]; omega) (fun g hg => (own_block OY.out hg).1))
                  case measure => have := HK.out; simp [intOf]; omega
                · have hs' : (s2 == 1) = false := by rw [beq_eq_false_iff_ne]; exact hs
                  have VP := Lib.hid (vp_two (d := d2) (t := tt) hs)
                  go_wp2_with (first | (at_builtin; refine wpList_append_own _ rfl (.tmp 84) (.tmp 93) 22 rfl B0 3 i0 (.int .i64 0) 1 8 Tryd.underlying22 hi hz0 hz1 hz2 rfl (by decide) _ ys.length (ys.map (Value.int .i64)) rfl (OY.out.alloc _) ⟨wr.heap.size, 0, none⟩ 2 2 ([1024 + 2 * d2, tt - tp].map (Value.int .i64)) rfl rfl (news_int (W := wr) (ys := [1024 + 2 * d2, tt - tp])) (one_cells (ys := [1024 + 2 * d2, tt - tp])) (by unfold maxLen; have := LN.out; omega) (by have := LN.out; omega) (by have := SB.out; simp only [World.size_alloc]; omega) ?_; intro v3 w3 hown hg _; have hcl := CELL.out _ _ hg))
                  have AP := Own.app (ys := [1024 + 2 * d2, tt - tp]) hown rfl rfl
                  clear hcl c0 c1 c2
                  go_roundw
                  case rel =>
                    refine ⟨k + 1, by omega, (by have := HK.out; congr 1; omega), by rw [HBN.out], Lib.hid ?_, Lib.hid ?_⟩
                    · rw [HSN.out, VP.out, ← List.append_assoc, ← List.append_assoc, List.append_assoc zs, ← YS.out]; exact AP
                    · exact ((BB.out.alloc SB.out _).grown hg (by have := SB.out; simp only [World.size_alloc]; omega) (fun g hg => (own_block OY.out hg).1))
                  case measure => have := HK.out; simp [intOf]; omega
              · obtain rfl : k = j := by omega
                have e := HVS.out
                rw [HT.out] at e
                have OF := Lib.hid OO.out
                obtain ⟨K, hK⟩ : ∃ K, K = I + k := ⟨_, rfl⟩
                rw [← hK]
                have hKi : decide ((K : Int) < (I : Int) + (k : Int)) = false := decide_eq_false (by omega)
                have HE := Lib.hid e
                have HK := Lib.hid hK
                clear e OO hkj hk hK
                go_wp2_with fail
                go_roundw
                case rel =>
                  refine ⟨I + k, _, by omega, by go_num, Lib.hid ⟨OF.out, ?_⟩, BB⟩
                  rw [O2.out, ← HM.out, HE.out, HM.out, List.drop_drop]
                  simp only [List.append_assoc]
                case measure => simp [intOf]; omega
    · obtain rfl : I = L := by omega
      have e := O.out.2
      rw [HL.out, List.drop_length, values_nil, List.append_nil] at e
      have O2 := Lib.hid (show Own .i64 3 wr B0 u3 (valuesR l) by rw [e]; exact O.out.1)
      clear e O hlt hI
      go_wp2_with fail
      go_ret
      exact ⟨_, rfl, O2.out, B.out⟩
/-- The reference's Encode. -/
theorem renc_any (l : List Pul) (A : Option Addr) (c : Nat) (w : World) (h : PRow w A l) :
    Calls Tryd.prog 18 #[.slice A l.length c] w (EncPost w.heap.size l w) := by
  have hv := rvalid_any l A c w h
  obtain ⟨er, her⟩ : ∃ e, e = validR l := ⟨_, rfl⟩
  rw [← her] at hv
  have HV := Lib.hid hv
  by_cases h0 : er = 0
  · have hl : l.length ≤ 4096 := by
      refine Nat.le_of_not_lt fun g => ?_
      have : validR l = 3 := by unfold validR; rw [if_pos g]
      omega
    have hrun : run 0 l := by
      rw [← vw_run]
      have : validR l = vw 0 l := by unfold validR; rw [if_neg (by omega)]
      omega
    have HE := Lib.hid (show encL l = packR (valuesR l) by unfold encL; rw [if_pos (by omega)])
    have HR := Lib.hid (run_all hrun)
    have HP := Lib.hid h
    have HLE := Lib.hid hl
    have hl' := hl
    subst h0
    clear hv her hrun h hl
    go_enter Tryd.func18, Tryd.ntmps18
    go_wp2_with fail
    refine HV.out.mono ?_
    rintro e w1 ⟨rfl, B1⟩
    have HB1 := Lib.hid B1
    clear B1
    go_wp2_with fail
    refine (vals_any l A c w1 (HP.out.below HB1.out) HR.out HLE.out).mono ?_
    rintro e w2 ⟨v, rfl, O2, B2⟩
    obtain ⟨A2, c2, rfl, R2⟩ := Own.rowB O2
    have HB2 := Lib.hid (HB1.out.trans (B2.mono HB1.out.size))
    have HR2 := Lib.hid R2
    clear O2 B2 R2
    go_wp2_with fail
    refine (rpack_any (valuesR l) A2 c2 w2 HR2.out.1 HR2.out.2).mono ?_
    rintro e w3 ⟨v3, rfl, O3, B3⟩
    have HB3 := Lib.hid (HB2.out.trans (B3.mono HB2.out.size))
    have HO3 := Lib.hid (O3.base (base' := w.heap.size) HB2.out.size)
    clear O3 B3
    go_wp2_with fail
    refine bodyPost_ret (v := .tuple #[v3, .int .i64 (packR (valuesR l)).2]) (by simp [results, Tryd.results18, go_sem]) rfl ⟨v3, ?_, ?_, HB3.out⟩
    · rw [HE.out]
    · rw [HE.out]; exact HO3.out
  · have HE := Lib.hid (enc_bad (l := l) (by omega))
    have hne : (er != 0) = true := by rw [bne_iff_ne]; exact h0
    have HR := Lib.hid her
    clear h hv her h0
    go_enter Tryd.func18, Tryd.ntmps18
    go_wp2_with fail
    refine HV.out.mono ?_
    rintro e w1 ⟨rfl, B1⟩
    go_wp2_with fail
    exact bodyPost_ret (v := .tuple #[.slice none 0 0, .int .i64 er]) (by simp [results, Tryd.results18, go_sem]) rfl (EncPost.mk' HE.out (by rw [HR.out]) Own.nil B1)
end Go.Proofs.YtbpgbdnfoofnaaaDoor
