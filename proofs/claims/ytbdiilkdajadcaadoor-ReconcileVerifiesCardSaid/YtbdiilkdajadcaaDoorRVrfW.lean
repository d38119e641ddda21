/-
  Stage 8: the walk of ReconcileVerifies.
-/
import Derived.Test.YtbdiilkdajadcaaDoorRVrf
import Derived.Test.YtbdiilkdajadcaaDoorRExaW
import Derived.Test.YtbdiilkdajadcaaDoorRVapp
set_option linter.unusedSimpArgs false
set_option linter.unusedVariables false
namespace Go.Proofs.YtbdiilkdajadcaaDoor
open Go.RowKit

theorem appI_shape {base : Nat} {v : Value} {zs : List Int} {y : Int} {W : World} {v' : Value} {w' : World} (A : AppI base v zs y W v' w') : ∃ g cap, v' = .slice (some ⟨g, 0, none⟩) (zs.length + 1) cap := by
  obtain ⟨_, _, g, cap, e, _⟩ := A
  exact ⟨g, cap, e⟩
theorem Tab.moves {e : TypeId} {w w' : World} {base g L M k m : Nat} {rb rc : Nat → Nat} {T : Nat → Nat → Int} (h : Tab IR e w base g L M k rb rc T) (mv : Moves m w w') (hm : m < base) : Tab IR e w' base g L M k rb rc T :=
  h.of_heap mv.size (mv.block g h.glt (by have := h.gb; omega)) (fun i hi => mv.block _ (h.rlt hi).2 (by have := (h.rlt hi).1; omega))
theorem IsPot.bnd {a b : List Int} {T : Nat → Nat → Int} (h : IsPot a b T) (ha : a.length ≤ 96) (hb : b.length ≤ 96) : ∀ x y, x < a.length + 1 → y < b.length + 1 → -1000 ≤ T x y ∧ T x y ≤ 1000 := fun x y hx hy => by
  have := h.bd _ x y rfl (by omega) (by omega)
  omega
set_option maxRecDepth 100000 in
set_option maxHeartbeats 25600000 in
theorem vrf_walk (ts : List Int) (cost : Int) (ps : List (List Int)) (AT P : Option Addr) (ct k cp : Nat) (w : World) (hK : Knd w) (rt : Row .i64 w w.heap.size AT ts) (mt : ts.length ≤ maxLen) (wt : ∀ n ∈ ts, (Lit.int .i64 n).wf = true) (hp : Tbl w P k ps) :
    Calls Tryd.prog 5 #[.slice AT ts.length ct, .int .i64 cost, .slice P k cp] w fun e w' => e = .returned (.bool true) ∧ Below w.heap.size w w' := by
  have HK := Lib.hid hK
  have K0 := Lib.hid (mk_row (T := 64) (c := ct) rt mt wt)
  have HP := Lib.hid hp
  have hkm : k ≤ 9223372036854775807 := by rw [hp.len]; have := hp.sml; unfold maxLen at this; omega
  clear hK rt mt wt hp
  go_enter Tryd.func5, Tryd.ntmps5
  go_wp2_with fail
  refine (new_any AT ts.length ct _).mono ?_
  rintro e w1 ⟨rfl, e1⟩
  obtain ⟨m, hm⟩ : ∃ m, m = w.heap.size := ⟨_, rfl⟩
  have HM := Lib.hid hm
  have K1 := Lib.hid (show IsMk w1 m 0 by rw [e1, hm]; exact K0.out)
  have B1 := Lib.hid (show Below w.heap.size w w1 by rw [e1]; exact box1W _ _)
  rw [← hm]
  clear e1 K0 hm
  go_wp2_with fail
  go_loopw [8] (fun iv wr => ∃ (I M : Nat), iv = .int .i64 (I : Int) ∧ I ≤ 4 ∧ M ≤ 40 * I ∧ Hid (IsMk wr m M) ∧ Hid (Below w.heap.size w wr)) (fun iv _ => 4 - (intOf iv).toNat)
  case atStart => exact ⟨0, 0, rfl, by omega, by omega, K1, B1⟩
  case round =>
    clear K1 B1
    obtain ⟨I, M, rfl, hI, hM, K, B⟩ := hrel
    have HMM := Lib.hid hM
    by_cases hlt : I < 4
    · have hlti : (I : Int) < 4 := by omega
      have hM2 : M ≤ 200 := by omega
      have hmr : m < wr.heap.size := K.out.lt
      clear hM
      go_wp2_with fail
      refine (lists_any m M 8 _ K.out (by omega) (by omega)).mono ?_
      rintro e w2 ⟨vx, vy, xs, ys, rfl, OX, OY, hx, hy, k2, M2⟩
      have B2 := Lib.hid (Moves.below B.out M2 (Nat.le_of_eq HM.out.symm) B.out.size)
      have K2 := Lib.hid k2
      obtain ⟨A, c, rfl, -⟩ := OX.lst (by omega)
      obtain ⟨A', c', rfl, -⟩ := OY.lst (by omega)
      have LX := Lib.hid (show ∀ W, Moves m w2 W → Lst W A xs.length c xs from fun W k => OX.lstM (by omega) hmr k)
      have LY := Lib.hid (show ∀ W, Moves m w2 W → Lst W A' ys.length c' ys from fun W k => OY.lstM (by omega) hmr k)
      generalize xs.length = nx at *
      generalize ys.length = ny at *
      clear OX OY k2 M2 K B
      generalize wr.heap.size = br at *
      have KN := Lib.hid (show ∀ W, Moves m w2 W → Knd W from fun W k => HK.out.below' (Moves.below B2.out k (Nat.le_of_eq HM.out.symm) B2.out.size))
      have HPW := Lib.hid (show ∀ W, Moves m w2 W → Tbl W P k ps from fun W q => HP.out.below (Moves.below B2.out q (Nat.le_of_eq HM.out.symm) B2.out.size))
      have hm2 : m < w2.heap.size := K2.out.lt
      have T2 := Lib.hid (Moves.refl m w2)
      go_wp2_with fail
      refine (rali_sm (LX.out _ T2.out) (LY.out _ T2.out)).mono ?_
      rintro e w3 ⟨⟨v3, rfl, -⟩, B3⟩
      have T3 := Lib.hid (Moves.of_below (m := m) B3)
      have K3 := Lib.hid (K2.out.stays' B3)
      obtain ⟨C, hC, hc0, hc1⟩ := cst_ex (LX.out _ T2.out) (LY.out _ T2.out)
      rw [hC]
      clear B3 T2 K2 hC
      go_wp2_with fail
      refine (rpot_sm (LX.out _ T3.out) (LY.out _ T3.out)).mono ?_
      rintro e w5 ⟨⟨g, kq, cq, rfl, P5⟩, B5⟩
      have T5 := Lib.hid (T3.out.trans (Moves.of_below B5))
      have K5 := Lib.hid (K3.out.stays' B5)
      obtain ⟨hkq, hcq, rb, rc, T, hT, hPot⟩ := P5
      have hmb : m < w3.heap.size := Nat.lt_of_lt_of_le hm2 T3.out.size
      have hb23 : w2.heap.size ≤ w3.heap.size := T3.out.size
      generalize w3.heap.size = b3 at hT hmb hb23
      have HT := Lib.hid hT
      have HBD := Lib.hid (hPot.bnd (LX.out _ T3.out).sml (LY.out _ T3.out).sml)
      have hL1 : xs.length + 1 ≤ 97 := by have := (LX.out _ T3.out).sml; omega
      have hL2 : ys.length + 1 ≤ 97 := by have := (LY.out _ T3.out).sml; omega
      rw [← hkq] at HT HBD hL1
      obtain ⟨Mq, hMq⟩ : ∃ Mq, Mq = ys.length + 1 := ⟨_, rfl⟩
      rw [← hMq] at HT HBD hL2
      have hkq0 : 0 < kq := by omega
      have hMq0 : 0 < Mq := by omega
      clear hT hPot B5 T3 K3 hkq hMq hx hy
      by_cases hI0 : 0 < I
      · have hI1 : (0 : Int) < (I : Int) := by omega
        go_wp2_with fail
        refine (next_any m (M + 1 + 3 * 8) (kq : Int) _ K5.out (by omega) (by omega) (by omega)).mono ?_
        rintro e w6 ⟨r, rfl, r1, r2, k6, m6⟩
        obtain ⟨R, rfl⟩ := Int.eq_ofNat_of_zero_le r1
        have hR : R < kq := by omega
        have hRi : (R : Int) < (kq : Int) := by omega
        have hR0 : (0 : Int) ≤ (R : Int) := by omega
        have K6 := Lib.hid k6
        have T6 := Lib.hid (T5.out.trans m6)
        have HT6 := Lib.hid (HT.out.moves m6 hmb)
        have c6 := HT6.out.out R hR
        clear k6 m6 r1 r2 K5 T5 HT
        go_wp2_with fail
        refine (next_any m (M + 1 + 3 * 8 + 1) (Mq : Int) _ K6.out (by omega) (by omega) (by omega)).mono ?_
        rintro e w7 ⟨s, rfl, s1, s2, k7, m7⟩
        obtain ⟨S, rfl⟩ := Int.eq_ofNat_of_zero_le s1
        have hS : S < Mq := by omega
        have hSi : (S : Int) < (Mq : Int) := by omega
        have hS0 : (0 : Int) ≤ (S : Int) := by omega
        have K7 := Lib.hid k7
        have T7 := Lib.hid (T6.out.trans m7)
        have HT7 := Lib.hid (HT6.out.moves m7 hmb)
        obtain ⟨t, ht⟩ : ∃ t, t = T R S := ⟨_, rfl⟩
        have HTT := Lib.hid ht
        have ht1 : -1000 ≤ t ∧ t ≤ 1000 := by rw [ht]; exact HBD.out R S hR hS
        have HCL := Lib.hid (show ∀ W, Tab IR 3 W b3 g kq Mq kq rb rc T → W.cell? ⟨g, R, none⟩ = some (.slice (some ⟨rb R, 0, none⟩) Mq (rc R)) ∧ W.cell? ⟨rb R, S, none⟩ = some (.int .i64 t) ∧ W.frozen? ⟨rb R, S, none⟩ = false from fun W h => ⟨h.out R hR, by
          have := (rown_own (h.row R hR)).cell (rowL_len _ _).symm S (by rw [rowL_len]; exact hS)
          rw [this, rowL_getD _ _ hS, HTT.out], (rown_own (h.row R hR)).frozen (rowL_len _ _).symm S⟩)
        have c7 := (HCL.out _ HT7.out).1
        have d7 := (HCL.out _ HT7.out).2.1
        have HTA := Lib.hid (HT7.out.below (box1W w7 (.cells #[.int .i64 (-5), .int .i64 (-1), .int .i64 0, .int .i64 1, .int .i64 2] 3)))
        have cA := (HCL.out _ HTA.out).1
        have dA' := (HCL.out _ HTA.out).2.1
        have K7d := Lib.hid (show IsMk (w7.alloc (.cells #[.int .i64 (-5), .int .i64 (-1), .int .i64 0, .int .i64 1, .int .i64 2] 3)).drew m (M + 1 + 3 * 8 + 1 + 1) from (K7.out.alloc _).drewN (n := 1))
        have HTD := Lib.hid (show Tab IR 3 (w7.alloc (.cells #[.int .i64 (-5), .int .i64 (-1), .int .i64 0, .int .i64 1, .int .i64 2] 3)).drew b3 g kq Mq kq rb rc T from HTA.out.below ⟨rfl, rfl, rfl, Nat.le_refl _, fun _ _ => rfl⟩)
        have T7d := Lib.hid (show Moves m w2 (w7.alloc (.cells #[.int .i64 (-5), .int .i64 (-1), .int .i64 0, .int .i64 1, .int .i64 2] 3)).drew from (T7.out.alloc _).drewN (n := 1))
        clear k7 m7 s1 s2 K6 T6 HT6 c6 ht
        go_upto_region 11 with fail
        go_region_law (go_simp; go_at_call 19; refine (pick_any m (M + 1 + 3 * 8 + 1 + 1) (fun z => -5 ≤ z ∧ z ≤ 2) _ 5 5 _ K7d.out (by omega) (by omega) (by omega) (by have := K7.out.lt; show w7.heap.size ≠ m; omega) (by simp) (by intro i hi; exact new_pick w7 _ (fun z => -5 ≤ z ∧ z ≤ 2) [-5, -1, 0, 1, 2] (by decide) _ rfl i hi)).mono ?_; rintro e wn ⟨p, rfl, ⟨p1, p2⟩, kn, mn⟩; have HTn := Lib.hid (HTD.out.moves mn hmb); have Kn := Lib.hid kn; have Tn := Lib.hid (T7d.out.trans mn); obtain ⟨cn, dn, fn⟩ := HCL.out _ HTn.out; have wtp : IntKind.i64.wrap (t + p) = t + p := IntWalk.i64_in _ (by omega); clear kn mn)
        all_goals
          have hrb : b3 ≤ rb R := (HTn.out.rlt hR).1
          have HTF := Lib.hid (HTn.out.setI hR S (t + p))
          have KF := Lib.hid (Kn.out.setCell (p := ⟨rb R, S, none⟩) (show m < rb R by omega) (.int .i64 (t + p)))
          have TF := Lib.hid (Tn.out.setCell (p := ⟨rb R, S, none⟩) (Or.inr (show w2.heap.size ≤ rb R by omega)) (.int .i64 (t + p)))
          have HBF := Lib.hid (show ∀ x y, x < kq → y < Mq → -1000000 ≤ upd T R S (t + p) x y ∧ upd T R S (t + p) x y ≤ 1000000 from fun x y hx hy => by
            unfold upd
            split
            · omega
            · have := HBD.out x y hx hy; omega)
          clear cn dn fn wtp c7 d7 cA dA' HTn Kn Tn HCL p1 p2 ht1 HTT HTD HTA K7d T7d K7 T7 HT7 HBD
          generalize wn.setCell _ _ = wf at HTF KF TF ⊢
          generalize upd T R S (t + p) = U at HTF HBF
          by_cases hI3 : I = 3
          · have hI3i : ((I : Int) == 3) = true := by simp [hI3]
            have hI3j : (I : Int) = 3 := by omega
            have hgl : g < wf.heap.size := HTF.out.glt
            have cF := HTF.out.out R hR
            have OR := Lib.hid (rown_own (HTF.out.row R hR))
            have hb3 : b3 ≤ wf.heap.size := Nat.le_trans HTF.out.gb (Nat.le_of_lt hgl)
            have HLN := Lib.hid (show (rowL (U R) Mq).length + 1 ≤ 1000000000 by rw [rowL_len]; omega)
            have HMB := Lib.hid (show m < b3 from hmb)
            have HMG := Lib.hid (show m < g from Nat.lt_of_lt_of_le hmb HTF.out.gb)
            have HWG := Lib.hid (show w2.heap.size ≤ g from Nat.le_trans hb23 HTF.out.gb)
            have HWB := Lib.hid hb23
            go_wp2_with (first
              | (at_builtin; refine wpList_appI _ rfl (.tmp 76) (.tmp 77) rfl b3 _ (rowL (U R) Mq) rfl (OR.out.alloc _) 0 wf rfl _ rfl 1 rfl HLN.out (le_allocW hb3) ?_; intro v8 w8 A8; have h8 := Tab.app HTF.out hR A8 (by omega) HBF.out; obtain ⟨c8, f8, TB8⟩ := h8; have TB := Lib.hid TB8; have K8 := Lib.hid (((KF.out.alloc _).grown A8.2.1 (fun k e => Nat.lt_of_lt_of_le HMB.out (own_block OR.out e).1)).setCell (p := ⟨g, R, none⟩) HMG.out v8); have T8 := Lib.hid (((TF.out.alloc _).grown A8.2.1 (fun k e => Nat.le_trans HWB.out (own_block OR.out e).1)).setCell (p := ⟨g, R, none⟩) (Or.inr HWG.out) v8); obtain ⟨gg, cc, hv8⟩ := appI_shape A8; have HV8 := Lib.hid hv8; clear A8 TB8))
            clear c8 f8 HTF HBF OR KF TF
            generalize tabL U kq Mq = qt at TB
            generalize List.set qt R _ = qs at TB
            clear hv8
            rw [← HV8.out]
            have HSZ : (w8.setCell ⟨g, R, none⟩ v8).heap.size = w8.heap.size := by simp
            generalize w8.setCell ⟨g, R, none⟩ v8 = wg at TB K8 T8 HSZ ⊢
            clear HV8
            rw [← HSZ]
            have HPQ := Lib.hid (show ∀ W, Moves m wg W → Below wg.heap.size wg W → Tbl W (some ⟨g, 0, none⟩) kq qs from fun W _ b => TB.out.below b)
            have HLD := Lib.hid (show ∀ J, J < 4 → ∃ z : Int, ∀ W, Below (wg.alloc (.cells #[.int .i64 C, .int .i64 (C - 1), .int .i64 (C + 1), .int .i64 cost] 3)).heap.size (wg.alloc (.cells #[.int .i64 C, .int .i64 (C - 1), .int .i64 (C + 1), .int .i64 cost] 3)) W → W.cell? ⟨wg.heap.size, J, none⟩ = some (.int .i64 z) from fun J hJ => by
              rcases (by omega : J = 0 ∨ J = 1 ∨ J = 2 ∨ J = 3) with rfl | rfl | rfl | rfl
              · exact ⟨C, fun W b => (b.cell (p := ⟨wg.heap.size, 0, none⟩) (by simp)).trans (cell_new _ _ _ 0)⟩
              · exact ⟨C - 1, fun W b => (b.cell (p := ⟨wg.heap.size, 1, none⟩) (by simp)).trans (cell_new _ _ _ 1)⟩
              · exact ⟨C + 1, fun W b => (b.cell (p := ⟨wg.heap.size, 2, none⟩) (by simp)).trans (cell_new _ _ _ 2)⟩
              · exact ⟨cost, fun W b => (b.cell (p := ⟨wg.heap.size, 3, none⟩) (by simp)).trans (cell_new _ _ _ 3)⟩)
            have B6 := Lib.hid (box1W wg (.cells #[.int .i64 C, .int .i64 (C - 1), .int .i64 (C + 1), .int .i64 cost] 3))
            generalize hbl : wg.heap.size = bl at HLD ⊢
            generalize wg.alloc _ = w6 at HLD B6 ⊢
            have HB6 := Lib.hid (show Below wg.heap.size wg w6 by rw [hbl]; have := B6.out; rwa [hbl] at this)
            clear B6 hbl
            go_loopw [88] (fun i wx => ∃ J : Nat, i = .int .i64 (J : Int) ∧ J ≤ 4 ∧ Hid (Below w6.heap.size w6 wx)) (fun i _ => 4 - (intOf i).toNat)
            case atStart => exact ⟨0, rfl, by omega, Lib.hid (Below.refl _ _)⟩
            case round =>
              obtain ⟨J, rfl, hJ, BJ⟩ := hrel
              have B5J := Lib.hid (HB6.out.trans (BJ.out.mono HB6.out.size))
              have MJ := Lib.hid (T8.out.trans (Moves.of_below B5J.out))
              by_cases hJ3 : J < 4
              · have hJi : (J : Int) < 4 := by omega
                have hJ0 : (0 : Int) ≤ (J : Int) := by omega
                obtain ⟨z, hz⟩ := HLD.out J hJ3
                have cel := hz _ BJ.out
                have TBJ := Lib.hid (TB.out.below B5J.out)
                clear hz
                go_wp2_with fail
                refine (ver_tb z (KN.out _ MJ.out) (LX.out _ MJ.out) (LY.out _ MJ.out) TBJ.out).mono ?_
                rintro e w8 ⟨rfl, B8⟩
                have MJ8 := Lib.hid (MJ.out.trans (Moves.of_below B8))
                have TB8 := Lib.hid (TBJ.out.below B8)
                have BJ8 := Lib.hid (BJ.out.trans (B8.mono BJ.out.size))
                clear B8 MJ TBJ BJ B5J cel
                go_wp2_with fail
                refine (rver_tb z (LX.out _ MJ8.out) (LY.out _ MJ8.out) TB8.out).mono ?_
                rintro e w9 ⟨rfl, B9⟩
                have BJ9 := Lib.hid (BJ8.out.trans (B9.mono BJ8.out.size))
                clear B9 MJ8 TB8 BJ8
                generalize vB _ _ _ _ = vv
                cases vv
                all_goals
                  go_wp2_with fail
                  go_roundw
                  case rel => exact ⟨J + 1, by go_num, by omega, BJ9⟩
                  case measure => simp [intOf] <;> omega
              · obtain rfl : J = 4 := by omega
                have hJi : ¬ ((4 : Nat) : Int) < 4 := by decide
                have KJ := Lib.hid (K8.out.stays' B5J.out)
                have BW := Lib.hid (Moves.below B2.out MJ.out (Nat.le_of_eq HM.out.symm) B2.out.size)
                by_cases hk40 : k ≤ 40
                · have hk4 : (k : Int) ≤ 40 := by omega
                  have TPJ := Lib.hid (HPW.out _ MJ.out)
                  clear BJ B5J
                  go_wp2_with fail
                  refine (ver_tb cost (KN.out _ MJ.out) (LX.out _ MJ.out) (LY.out _ MJ.out) TPJ.out).mono ?_
                  rintro e w8 ⟨rfl, B8⟩
                  have MJ8 := Lib.hid (MJ.out.trans (Moves.of_below B8))
                  have TB8 := Lib.hid (TPJ.out.below B8)
                  have KJ8 := Lib.hid (KJ.out.stays' B8)
                  have BW8 := Lib.hid (BW.out.trans (B8.mono BW.out.size))
                  clear B8 MJ TPJ KJ BW
                  go_wp2_with fail
                  refine (rver_tb cost (LX.out _ MJ8.out) (LY.out _ MJ8.out) TB8.out).mono ?_
                  rintro e w9 ⟨rfl, B9⟩
                  have KJ9 := Lib.hid (KJ8.out.stays' B9)
                  have BW9 := Lib.hid (BW8.out.trans (B9.mono BW8.out.size))
                  clear B9 MJ8 TB8 KJ8 BW8
                  generalize vB _ _ _ _ = vv
                  cases vv
                  all_goals
                    go_wp2_with fail
                    go_roundw
                    case rel => exact ⟨I + 1, _, by go_num, by omega, by have := HMM.out; omega, KJ9, BW9⟩
                    case measure => simp [intOf] <;> omega
                · have hk4 : ¬ (k : Int) ≤ 40 := by omega
                  clear BJ B5J MJ
                  go_wp2_with fail
                  go_roundw
                  case rel => exact ⟨I + 1, _, by go_num, by omega, by have := HMM.out; omega, KJ, BW⟩
                  case measure => simp [intOf] <;> omega
          · have hI3i : ((I : Int) == 3) = false := beq_eq_false_iff_ne.2 (by omega)
            have TB := Lib.hid (HTF.out.tbl (by omega) HBF.out)
            generalize tabL U kq Mq = qs at TB
            clear HTF HBF
            go_wp2_with fail
            have HPQ := Lib.hid (show ∀ W, Moves m wf W → Below wf.heap.size wf W → Tbl W (some ⟨g, 0, none⟩) kq qs from fun W _ b => TB.out.below b)
            have HLD := Lib.hid (show ∀ J, J < 4 → ∃ z : Int, ∀ W, Below (wf.alloc (.cells #[.int .i64 C, .int .i64 (C - 1), .int .i64 (C + 1), .int .i64 cost] 3)).heap.size (wf.alloc (.cells #[.int .i64 C, .int .i64 (C - 1), .int .i64 (C + 1), .int .i64 cost] 3)) W → W.cell? ⟨wf.heap.size, J, none⟩ = some (.int .i64 z) from fun J hJ => by
              rcases (by omega : J = 0 ∨ J = 1 ∨ J = 2 ∨ J = 3) with rfl | rfl | rfl | rfl
              · exact ⟨C, fun W b => (b.cell (p := ⟨wf.heap.size, 0, none⟩) (by simp)).trans (cell_new _ _ _ 0)⟩
              · exact ⟨C - 1, fun W b => (b.cell (p := ⟨wf.heap.size, 1, none⟩) (by simp)).trans (cell_new _ _ _ 1)⟩
              · exact ⟨C + 1, fun W b => (b.cell (p := ⟨wf.heap.size, 2, none⟩) (by simp)).trans (cell_new _ _ _ 2)⟩
              · exact ⟨cost, fun W b => (b.cell (p := ⟨wf.heap.size, 3, none⟩) (by simp)).trans (cell_new _ _ _ 3)⟩)
            have B6 := Lib.hid (box1W wf (.cells #[.int .i64 C, .int .i64 (C - 1), .int .i64 (C + 1), .int .i64 cost] 3))
            generalize hbl : wf.heap.size = bl at HLD ⊢
            generalize wf.alloc _ = w6 at HLD B6 ⊢
            have HB6 := Lib.hid (show Below wf.heap.size wf w6 by rw [hbl]; have := B6.out; rwa [hbl] at this)
            clear B6 hbl
            go_loopw [88] (fun i wx => ∃ J : Nat, i = .int .i64 (J : Int) ∧ J ≤ 4 ∧ Hid (Below w6.heap.size w6 wx)) (fun i _ => 4 - (intOf i).toNat)
            case atStart => exact ⟨0, rfl, by omega, Lib.hid (Below.refl _ _)⟩
            case round =>
              obtain ⟨J, rfl, hJ, BJ⟩ := hrel
              have B5J := Lib.hid (HB6.out.trans (BJ.out.mono HB6.out.size))
              have MJ := Lib.hid (TF.out.trans (Moves.of_below B5J.out))
              by_cases hJ3 : J < 4
              · have hJi : (J : Int) < 4 := by omega
                have hJ0 : (0 : Int) ≤ (J : Int) := by omega
                obtain ⟨z, hz⟩ := HLD.out J hJ3
                have cel := hz _ BJ.out
                have TBJ := Lib.hid (TB.out.below B5J.out)
                clear hz
                go_wp2_with fail
                refine (ver_tb z (KN.out _ MJ.out) (LX.out _ MJ.out) (LY.out _ MJ.out) TBJ.out).mono ?_
                rintro e w8 ⟨rfl, B8⟩
                have MJ8 := Lib.hid (MJ.out.trans (Moves.of_below B8))
                have TB8 := Lib.hid (TBJ.out.below B8)
                have BJ8 := Lib.hid (BJ.out.trans (B8.mono BJ.out.size))
                clear B8 MJ TBJ BJ B5J cel
                go_wp2_with fail
                refine (rver_tb z (LX.out _ MJ8.out) (LY.out _ MJ8.out) TB8.out).mono ?_
                rintro e w9 ⟨rfl, B9⟩
                have BJ9 := Lib.hid (BJ8.out.trans (B9.mono BJ8.out.size))
                clear B9 MJ8 TB8 BJ8
                generalize vB _ _ _ _ = vv
                cases vv
                all_goals
                  go_wp2_with fail
                  go_roundw
                  case rel => exact ⟨J + 1, by go_num, by omega, BJ9⟩
                  case measure => simp [intOf] <;> omega
              · obtain rfl : J = 4 := by omega
                have hJi : ¬ ((4 : Nat) : Int) < 4 := by decide
                have KJ := Lib.hid (KF.out.stays' B5J.out)
                have BW := Lib.hid (Moves.below B2.out MJ.out (Nat.le_of_eq HM.out.symm) B2.out.size)
                by_cases hk40 : k ≤ 40
                · have hk4 : (k : Int) ≤ 40 := by omega
                  have TPJ := Lib.hid (HPW.out _ MJ.out)
                  clear BJ B5J
                  go_wp2_with fail
                  refine (ver_tb cost (KN.out _ MJ.out) (LX.out _ MJ.out) (LY.out _ MJ.out) TPJ.out).mono ?_
                  rintro e w8 ⟨rfl, B8⟩
                  have MJ8 := Lib.hid (MJ.out.trans (Moves.of_below B8))
                  have TB8 := Lib.hid (TPJ.out.below B8)
                  have KJ8 := Lib.hid (KJ.out.stays' B8)
                  have BW8 := Lib.hid (BW.out.trans (B8.mono BW.out.size))
                  clear B8 MJ TPJ KJ BW
                  go_wp2_with fail
                  refine (rver_tb cost (LX.out _ MJ8.out) (LY.out _ MJ8.out) TB8.out).mono ?_
                  rintro e w9 ⟨rfl, B9⟩
                  have KJ9 := Lib.hid (KJ8.out.stays' B9)
                  have BW9 := Lib.hid (BW8.out.trans (B9.mono BW8.out.size))
                  clear B9 MJ8 TB8 KJ8 BW8
                  generalize vB _ _ _ _ = vv
                  cases vv
                  all_goals
                    go_wp2_with fail
                    go_roundw
                    case rel => exact ⟨I + 1, _, by go_num, by omega, by have := HMM.out; omega, KJ9, BW9⟩
                    case measure => simp [intOf] <;> omega
                · have hk4 : ¬ (k : Int) ≤ 40 := by omega
                  clear BJ B5J MJ
                  go_wp2_with fail
                  go_roundw
                  case rel => exact ⟨I + 1, _, by go_num, by omega, by have := HMM.out; omega, KJ, BW⟩
                  case measure => simp [intOf] <;> omega
      · have hI1 : ¬ (0 : Int) < (I : Int) := by omega
        have TB := Lib.hid (HT.out.tbl (by omega) (fun x y hx hy => by have := HBD.out x y hx hy; omega))
        generalize tabL T kq Mq = qs at TB
        clear HT HBD
        go_wp2_with fail
        have HPQ := Lib.hid (show ∀ W, Moves m w5 W → Below w5.heap.size w5 W → Tbl W (some ⟨g, 0, none⟩) kq qs from fun W _ b => TB.out.below b)
        have HLD := Lib.hid (show ∀ J, J < 4 → ∃ z : Int, ∀ W, Below (w5.alloc (.cells #[.int .i64 C, .int .i64 (C - 1), .int .i64 (C + 1), .int .i64 cost] 3)).heap.size (w5.alloc (.cells #[.int .i64 C, .int .i64 (C - 1), .int .i64 (C + 1), .int .i64 cost] 3)) W → W.cell? ⟨w5.heap.size, J, none⟩ = some (.int .i64 z) from fun J hJ => by
          rcases (by omega : J = 0 ∨ J = 1 ∨ J = 2 ∨ J = 3) with rfl | rfl | rfl | rfl
          · exact ⟨C, fun W b => (b.cell (p := ⟨w5.heap.size, 0, none⟩) (by simp)).trans (cell_new _ _ _ 0)⟩
          · exact ⟨C - 1, fun W b => (b.cell (p := ⟨w5.heap.size, 1, none⟩) (by simp)).trans (cell_new _ _ _ 1)⟩
          · exact ⟨C + 1, fun W b => (b.cell (p := ⟨w5.heap.size, 2, none⟩) (by simp)).trans (cell_new _ _ _ 2)⟩
          · exact ⟨cost, fun W b => (b.cell (p := ⟨w5.heap.size, 3, none⟩) (by simp)).trans (cell_new _ _ _ 3)⟩)
        have B6 := Lib.hid (box1W w5 (.cells #[.int .i64 C, .int .i64 (C - 1), .int .i64 (C + 1), .int .i64 cost] 3))
        generalize hbl : w5.heap.size = bl at HLD ⊢
        generalize w5.alloc _ = w6 at HLD B6 ⊢
        have HB6 := Lib.hid (show Below w5.heap.size w5 w6 by rw [hbl]; have := B6.out; rwa [hbl] at this)
        clear B6 hbl
        go_loopw [88] (fun i wx => ∃ J : Nat, i = .int .i64 (J : Int) ∧ J ≤ 4 ∧ Hid (Below w6.heap.size w6 wx)) (fun i _ => 4 - (intOf i).toNat)
        case atStart => exact ⟨0, rfl, by omega, Lib.hid (Below.refl _ _)⟩
        case round =>
          obtain ⟨J, rfl, hJ, BJ⟩ := hrel
          have B5J := Lib.hid (HB6.out.trans (BJ.out.mono HB6.out.size))
          have MJ := Lib.hid (T5.out.trans (Moves.of_below B5J.out))
          by_cases hJ3 : J < 4
          · have hJi : (J : Int) < 4 := by omega
            have hJ0 : (0 : Int) ≤ (J : Int) := by omega
            obtain ⟨z, hz⟩ := HLD.out J hJ3
            have cel := hz _ BJ.out
            have TBJ := Lib.hid (TB.out.below B5J.out)
            clear hz
            go_wp2_with fail
            refine (ver_tb z (KN.out _ MJ.out) (LX.out _ MJ.out) (LY.out _ MJ.out) TBJ.out).mono ?_
            rintro e w8 ⟨rfl, B8⟩
            have MJ8 := Lib.hid (MJ.out.trans (Moves.of_below B8))
            have TB8 := Lib.hid (TBJ.out.below B8)
            have BJ8 := Lib.hid (BJ.out.trans (B8.mono BJ.out.size))
            clear B8 MJ TBJ BJ B5J cel
            go_wp2_with fail
            refine (rver_tb z (LX.out _ MJ8.out) (LY.out _ MJ8.out) TB8.out).mono ?_
            rintro e w9 ⟨rfl, B9⟩
            have BJ9 := Lib.hid (BJ8.out.trans (B9.mono BJ8.out.size))
            clear B9 MJ8 TB8 BJ8
            generalize vB _ _ _ _ = vv
            cases vv
            all_goals
              go_wp2_with fail
              go_roundw
              case rel => exact ⟨J + 1, by go_num, by omega, BJ9⟩
              case measure => simp [intOf] <;> omega
          · obtain rfl : J = 4 := by omega
            have hJi : ¬ ((4 : Nat) : Int) < 4 := by decide
            have KJ := Lib.hid (K5.out.stays' B5J.out)
            have BW := Lib.hid (Moves.below B2.out MJ.out (Nat.le_of_eq HM.out.symm) B2.out.size)
            by_cases hk40 : k ≤ 40
            · have hk4 : (k : Int) ≤ 40 := by omega
              have TPJ := Lib.hid (HPW.out _ MJ.out)
              clear BJ B5J
              go_wp2_with fail
              refine (ver_tb cost (KN.out _ MJ.out) (LX.out _ MJ.out) (LY.out _ MJ.out) TPJ.out).mono ?_
              rintro e w8 ⟨rfl, B8⟩
              have MJ8 := Lib.hid (MJ.out.trans (Moves.of_below B8))
              have TB8 := Lib.hid (TPJ.out.below B8)
              have KJ8 := Lib.hid (KJ.out.stays' B8)
              have BW8 := Lib.hid (BW.out.trans (B8.mono BW.out.size))
              clear B8 MJ TPJ KJ BW
              go_wp2_with fail
              refine (rver_tb cost (LX.out _ MJ8.out) (LY.out _ MJ8.out) TB8.out).mono ?_
              rintro e w9 ⟨rfl, B9⟩
              have KJ9 := Lib.hid (KJ8.out.stays' B9)
              have BW9 := Lib.hid (BW8.out.trans (B9.mono BW8.out.size))
              clear B9 MJ8 TB8 KJ8 BW8
              generalize vB _ _ _ _ = vv
              cases vv
              all_goals
                go_wp2_with fail
                go_roundw
                case rel => exact ⟨I + 1, _, by go_num, by omega, by have := HMM.out; omega, KJ9, BW9⟩
                case measure => simp [intOf] <;> omega
            · have hk4 : ¬ (k : Int) ≤ 40 := by omega
              clear BJ B5J MJ
              go_wp2_with fail
              go_roundw
              case rel => exact ⟨I + 1, _, by go_num, by omega, by have := HMM.out; omega, KJ, BW⟩
              case measure => simp [intOf] <;> omega
    · obtain rfl : I = 4 := by omega
      have h2 : ¬ ((4 : Nat) : Int) < 4 := by decide
      have HK2 := Lib.hid (HK.out.below' B.out)
      go_wp2_with fail
      refine (sane_any _ HK2.out).mono ?_
      rintro e w5 ⟨rfl, B5⟩
      have B6 := Lib.hid (B.out.trans (B5.mono B.out.size))
      clear B5 B HK2
      go_wp2_with fail
      go_ret
      exact ⟨rfl, B6.out⟩
end Go.Proofs.YtbdiilkdajadcaaDoor
