/-
  Stage 11: the reference's Valid, Kind, Strict, Relation, Base, Levels.
-/
import Derived.Test.YtpimdcljecipeaaJLaw
set_option linter.unusedSimpArgs false
set_option linter.unusedVariables false
namespace Go.Proofs.Ytpimdcljecipeaa
open Go.RowKit Go.Lib

theorem okB_no {p : It} (h : ¬ okI p) : Value.bool true = Value.bool (!decide (okI p)) := by rw [decide_eq_false h]; rfl
theorem okB_yes {p : It} (h : okI p) : Value.bool false = Value.bool (!decide (okI p)) := by rw [decide_eq_true h]; rfl
/-- The round ahead of item k. -/
def befR (l : List It) : Nat → Int
  | 0 => 0
  | k + 1 => (l.getD k it0).2.2.1
set_option maxRecDepth 100000 in
set_option maxHeartbeats 3200000 in
theorem rvalid_any (l : List It) (A : Option Addr) (c : Nat) (wt : Int) (w : World) (h : IRow w A l) :
    Calls Try.prog 20 #[jv A l.length c wt] w fun e w' => e = .returned (.int .i64 (validR l wt)) ∧ Below w.heap.size w w' := by
  have hl : l.length ≤ 9223372036854775807 := h.len
  have H := Lib.hid h
  obtain ⟨L, hL⟩ : ∃ n, n = l.length := ⟨_, rfl⟩
  have HL := Lib.hid hL
  have HV := Lib.hid (show validR l wt = if 96 < L then 3 else if btw wt 0 12 = true then vwI 0 l else 2 by rw [hL]; rfl)
  rw [← hL] at hl ⊢
  have B0 := Lib.hid ((Below.refl w.heap.size w).alloc (Nat.le_refl _) (.cells #[.slice A L c, .int .i64 wt] 25))
  have J0 := Lib.hid (JBox.new (w := w) (A := A) (n := L) (c := c) (wt := wt) w.heap.size rfl)
  obtain ⟨b, hb⟩ : ∃ b, b = w.heap.size := ⟨_, rfl⟩
  have HB := Lib.hid hb
  clear h hL
  go_enter Try.func20, Try.ntmps20
  go_upto_region 1 with fail
  rw [← hb] at J0 ⊢
  generalize w.alloc (.cells #[.slice A L c, .int .i64 wt] 25) = w1 at *
  obtain ⟨j0, j1, jl⟩ := J0.out
  clear hb
  by_cases hbig : 96 < L
  · have HP := Lib.hid (show validR l wt = 3 by rw [HV.out, if_pos hbig])
    have hb : (96 : Int) < (L : Int) := by omega
    clear HV
    go_wp2_with fail
    go_ret
    exact ⟨ret_int HP.out.symm, B0.out⟩
  · have hb : ¬ (96 : Int) < (L : Int) := by omega
    by_cases hw1 : wt < 0
    · have HP := Lib.hid (show validR l wt = 2 by rw [HV.out, if_neg hbig, if_neg (fun g => by have := (btw_iff.1 g).1; omega)])
      clear HV
      go_wp2_with fail
      go_ret
      exact ⟨ret_int HP.out.symm, B0.out⟩
    · by_cases hw2 : 12 < wt
      · have HP := Lib.hid (show validR l wt = 2 by rw [HV.out, if_neg hbig, if_neg (fun g => by have := (btw_iff.1 g).2; omega)])
        clear HV
        go_wp2_with fail
        go_ret
        exact ⟨ret_int HP.out.symm, B0.out⟩
      · have HP := Lib.hid (show validR l wt = vwI 0 l by rw [HV.out, if_neg hbig, if_pos (btw_iff.2 ⟨by omega, by omega⟩)])
        have HJ := Lib.hid (show ∀ W, Below w1.heap.size w1 W → JBox W b A L c wt from fun W k => J0.out.below k J0.out.lt)
        clear HV
        go_wp2_with fail
        clear j0 j1 jl hb hw1 hw2
        go_loopw [3] (fun i wr => ∃ k : Nat, k ≤ L ∧ i = .int .i64 k ∧ Hid (vwI 0 l = vwI (befR l k) (l.drop k)) ∧ Hid (Below w1.heap.size w1 wr)) (fun i _ => L - (intOf i).toNat)
        case atStart => exact ⟨0, by omega, rfl, Lib.hid rfl, Lib.hid (Below.refl _ _)⟩
        case round =>
          obtain ⟨k, hk, rfl, V, B⟩ := hrel
          have BW := Lib.hid (B0.out.trans (B.out.mono B0.out.size))
          obtain ⟨j0, j1, jl⟩ := HJ.out _ B.out
          by_cases hlt : k < L
          · obtain ⟨ad, rfl, C⟩ := (H.out.below BW.out).at_ k (by rw [← HL.out]; exact hlt)
            have hd := drop_at (l := l) (k := k) (by rw [← HL.out]; exact hlt)
            have hbn : befR l (k + 1) = (l.getD k it0).2.2.1 := rfl
            obtain ⟨⟨t, bb, n, g⟩, hp⟩ : ∃ p, p = l.getD k it0 := ⟨_, rfl⟩
            rw [← hp] at C hd hbn
            have hv := V.out
            rw [hd] at hv
            have HV := Lib.hid hv
            have HBN := Lib.hid hbn
            obtain ⟨c0, c1, c2, c3⟩ := C.spelt
            have hlt' : (k : Int) < (L : Int) := by omega
            have P1 := (IPl.new (w := wr) (p := (t, bb, n, g)) (T := 44) wr.heap.size rfl)
            have B1 := Lib.hid (B.out.alloc B.out.size (.cells #[.int .i64 t, .int .i64 bb, .int .i64 n, .int .i64 g] 44))
            have BW1 := Lib.hid (B0.out.trans (B1.out.mono B0.out.size))
            clear C hp hd hv hbn V
            go_upto_region 9 with fail
            clear c0 c1 c2 c3 j0 j1 jl
            obtain ⟨q, hq⟩ : ∃ q, q = wr.heap.size := ⟨_, rfl⟩
            rw [← hq] at P1 ⊢
            generalize wr.alloc (.cells #[.int .i64 t, .int .i64 bb, .int .i64 n, .int .i64 g] 44) = W1 at *
            obtain ⟨p0, p1, p2, p3, plt⟩ := P1
            clear hq
            go_cut [66] (fun v wx => v = .bool (!decide (okI (t, bb, n, g))) ∧ wx = W1)
            case first =>
              by_cases q1 : t < 0
              · have HO := Lib.hid (okB_no (show ¬ okI (t, bb, n, g) from fun hh => by have hh2 : (0 ≤ t ∧ t ≤ 15) ∧ (0 ≤ bb ∧ bb ≤ 31) ∧ (0 ≤ n ∧ n ≤ 12) ∧ (1 ≤ g ∧ g ≤ 400) := hh; omega))
                go_wp2_with fail
                go_meet
                case rel => exact ⟨HO.out, rfl⟩
              · by_cases q2 : 16 ≤ t
                · have HO := Lib.hid (okB_no (show ¬ okI (t, bb, n, g) from fun hh => by have hh2 : (0 ≤ t ∧ t ≤ 15) ∧ (0 ≤ bb ∧ bb ≤ 31) ∧ (0 ≤ n ∧ n ≤ 12) ∧ (1 ≤ g ∧ g ≤ 400) := hh; omega))
                  go_wp2_with fail
                  go_meet
                  case rel => exact ⟨HO.out, rfl⟩
                · by_cases q3 : bb < 0
                  · have HO := Lib.hid (okB_no (show ¬ okI (t, bb, n, g) from fun hh => by have hh2 : (0 ≤ t ∧ t ≤ 15) ∧ (0 ≤ bb ∧ bb ≤ 31) ∧ (0 ≤ n ∧ n ≤ 12) ∧ (1 ≤ g ∧ g ≤ 400) := hh; omega))
                    go_wp2_with fail
                    go_meet
                    case rel => exact ⟨HO.out, rfl⟩
                  · by_cases q4 : 32 ≤ bb
                    · have HO := Lib.hid (okB_no (show ¬ okI (t, bb, n, g) from fun hh => by have hh2 : (0 ≤ t ∧ t ≤ 15) ∧ (0 ≤ bb ∧ bb ≤ 31) ∧ (0 ≤ n ∧ n ≤ 12) ∧ (1 ≤ g ∧ g ≤ 400) := hh; omega))
                      go_wp2_with fail
                      go_meet
                      case rel => exact ⟨HO.out, rfl⟩
                    · by_cases q5 : n < 0
                      · have HO := Lib.hid (okB_no (show ¬ okI (t, bb, n, g) from fun hh => by have hh2 : (0 ≤ t ∧ t ≤ 15) ∧ (0 ≤ bb ∧ bb ≤ 31) ∧ (0 ≤ n ∧ n ≤ 12) ∧ (1 ≤ g ∧ g ≤ 400) := hh; omega))
                        go_wp2_with fail
                        go_meet
                        case rel => exact ⟨HO.out, rfl⟩
                      · by_cases q6 : 13 ≤ n
                        · have HO := Lib.hid (okB_no (show ¬ okI (t, bb, n, g) from fun hh => by have hh2 : (0 ≤ t ∧ t ≤ 15) ∧ (0 ≤ bb ∧ bb ≤ 31) ∧ (0 ≤ n ∧ n ≤ 12) ∧ (1 ≤ g ∧ g ≤ 400) := hh; omega))
                          go_wp2_with fail
                          go_meet
                          case rel => exact ⟨HO.out, rfl⟩
                        · by_cases q7 : g < 1
                          · have HO := Lib.hid (okB_no (show ¬ okI (t, bb, n, g) from fun hh => by have hh2 : (0 ≤ t ∧ t ≤ 15) ∧ (0 ≤ bb ∧ bb ≤ 31) ∧ (0 ≤ n ∧ n ≤ 12) ∧ (1 ≤ g ∧ g ≤ 400) := hh; omega))
                            go_wp2_with fail
                            go_meet
                            case rel => exact ⟨HO.out, rfl⟩
                          · by_cases q8 : 400 < g
                            · have HO := Lib.hid (okB_no (show ¬ okI (t, bb, n, g) from fun hh => by have hh2 : (0 ≤ t ∧ t ≤ 15) ∧ (0 ≤ bb ∧ bb ≤ 31) ∧ (0 ≤ n ∧ n ≤ 12) ∧ (1 ≤ g ∧ g ≤ 400) := hh; omega))
                              go_wp2_with fail
                              go_meet
                              case rel => exact ⟨HO.out, rfl⟩
                            · have HO := Lib.hid (okB_yes (show okI (t, bb, n, g) from (show (0 ≤ t ∧ t ≤ 15) ∧ (0 ≤ bb ∧ bb ≤ 31) ∧ (0 ≤ n ∧ n ≤ 12) ∧ (1 ≤ g ∧ g ≤ 400) by omega)))
                              go_wp2_with fail
                              go_meet
                              case rel => exact ⟨HO.out, rfl⟩
            case rest =>
              obtain ⟨rfl, hwc⟩ := hcut
              rw [hwc]
              clear hwc
              by_cases ho : okI (t, bb, n, g)
              · rw [decide_eq_true ho]
                have HO := Lib.hid ho
                clear ho
                cases k with
                | zero =>
                  have HV2 := Lib.hid (HV.out.trans (vwI_ok HO.out (by have h0 : 0 ≤ n := HO.out.2.2.1.1; show ¬ n < 0; omega)))
                  go_wp2_with fail
                  go_quiet (fail)
                  go_wp2_with fail
                  go_roundw
                  case rel => exact ⟨1, by omega, rfl, Lib.hid (by rw [HBN.out]; exact HV2.out), Lib.hid (bdn B1.out)⟩
                  case measure => simp [intOf]; omega
                | succ m =>
                  obtain ⟨ad', e', C'⟩ := (H.out.below BW1.out).at_ m (by rw [← HL.out]; omega)
                  obtain rfl : ad = ad' := by injection e'
                  have hbm : befR l (m + 1) = (l.getD m it0).2.2.1 := rfl
                  obtain ⟨⟨t', bb', r, g'⟩, hp⟩ : ∃ p, p = l.getD m it0 := ⟨_, rfl⟩
                  rw [← hp] at C' hbm
                  obtain ⟨g0, g1, g2, g3⟩ := C'.spelt
                  have HBM := Lib.hid hbm
                  obtain ⟨j0, j1, jl⟩ := HJ.out _ B1.out
                  have hm1 : (m : Int) < (L : Int) := by omega
                  have hm0 : (0 : Int) ≤ (m : Int) := by omega
                  have hmg : (0 : Int) < (m : Int) + 1 := by omega
                  clear e' hp hbm C'
                  simp only at g2
                  go_wp2_with fail
                  go_quiet (fail)
                  clear p0 p1 p2 p3 g0 g1 g2 g3 j0 j1 jl
                  have hv := HV.out
                  rw [HBM.out] at hv
                  by_cases hlt2 : n < r
                  · have HV2 := Lib.hid (hv.trans (vwI_less HO.out hlt2))
                    clear hv
                    go_wp2_with fail
                    go_ret
                    exact ⟨ret_int (HP.out.trans HV2.out).symm, bdn BW1.out⟩
                  · have HV2 := Lib.hid (hv.trans (vwI_ok HO.out hlt2))
                    clear hv
                    go_wp2_with fail
                    go_roundw
                    case rel => exact ⟨m + 2, by omega, by go_num, Lib.hid (by rw [HBN.out]; exact HV2.out), Lib.hid (bdn B1.out)⟩
                    case measure => simp [intOf]; omega
              · have HV2 := Lib.hid (HV.out.trans (vwI_bad ho))
                rw [decide_eq_false ho]
                clear ho
                go_wp2_with fail
                go_ret
                exact ⟨ret_int (HP.out.trans HV2.out).symm, BW1.out⟩
          · obtain rfl : k = L := by omega
            have hv := V.out
            rw [HL.out, List.drop_length] at hv
            have HV2 := Lib.hid hv
            clear hv hlt hk V
            go_wp2_with fail
            go_ret
            exact ⟨ret_int (HP.out.trans HV2.out).symm, BW.out⟩
end Go.Proofs.Ytpimdcljecipeaa
