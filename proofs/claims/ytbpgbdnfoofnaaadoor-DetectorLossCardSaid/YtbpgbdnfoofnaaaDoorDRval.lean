/-
  Stage 4: the reference's Valid.
-/
import Derived.Test.YtbpgbdnfoofnaaaDoorDPul
set_option linter.unusedSimpArgs false
set_option linter.unusedVariables false
namespace Go.Proofs.YtbpgbdnfoofnaaaDoor
open Go.RowKit

/-- The time before the element k. -/
def bef (l : List Pul) : Nat → Int
  | 0 => 0
  | k + 1 => (l.getD k (0, 0, 0)).2.1
theorem vw_ok {t d tt s : Int} {l : List Pul} (ho : okP (d, tt, s)) (h : ¬ tt < t) : vw t ((d, tt, s) :: l) = vw tt l := by
  show (if okP (d, tt, s) then (if tt < t then 12 else vw tt l) else 1) = _
  rw [if_pos ho, if_neg h]
theorem vw_less {t d tt s : Int} {l : List Pul} (ho : okP (d, tt, s)) (h : tt < t) : vw t ((d, tt, s) :: l) = 12 := by
  show (if okP (d, tt, s) then (if tt < t then 12 else vw tt l) else 1) = _
  rw [if_pos ho, if_pos h]
theorem vw_bad {t d tt s : Int} {l : List Pul} (ho : ¬ okP (d, tt, s)) : vw t ((d, tt, s) :: l) = 1 := by
  show (if okP (d, tt, s) then (if tt < t then 12 else vw tt l) else 1) = _
  rw [if_neg ho]
set_option maxHeartbeats 800000 in
theorem rvalid_any (l : List Pul) (A : Option Addr) (c : Nat) (w : World) (h : PRow w A l) :
    Calls Tryd.prog 19 #[.slice A l.length c] w fun e w' => e = .returned (.int .i64 (validR l)) ∧ Below w.heap.size w w' := by
  have hl : l.length ≤ 9223372036854775807 := h.len
  by_cases hbig : 4096 < l.length
  · have HP := Lib.hid (show validR l = 3 by unfold validR; rw [if_pos hbig])
    have hb : (4096 : Int) < (l.length : Int) := by omega
    clear h
    go_enter Tryd.func19, Tryd.ntmps19
    go_wp2_with fail
    go_ret
    exact ⟨ret_int HP.out.symm, Below.refl _ _⟩
  · have H := Lib.hid h
    have HP := Lib.hid (show validR l = vw 0 l by unfold validR; rw [if_neg hbig])
    obtain ⟨L, hL⟩ : ∃ n, n = l.length := ⟨_, rfl⟩
    have HL := Lib.hid hL
    rw [← hL] at hl hbig ⊢
    clear h hL
    go_enter Tryd.func19, Tryd.ntmps19
    go_wp2_with fail
    go_loopw [3] (fun i wr => ∃ k : Nat, k ≤ L ∧ i = .int .i64 k ∧ Hid (vw 0 l = vw (bef l k) (l.drop k)) ∧ Hid (Below w.heap.size w wr)) (fun i _ => L - (intOf i).toNat)
    case atStart => exact ⟨0, by omega, rfl, Lib.hid rfl, Lib.hid (Below.refl _ _)⟩
    case round =>
      obtain ⟨k, hk, rfl, V, B⟩ := hrel
      by_cases hlt : k < L
      · obtain ⟨ad, rfl, C⟩ := (H.out.below B.out).at_ k (by rw [← HL.out]; exact hlt)
        have hd := drop_at (l := l) (k := k) (by rw [← HL.out]; exact hlt)
        have hbn : bef l (k + 1) = (l.getD k (0, 0, 0)).2.1 := rfl
        obtain ⟨⟨d, tt, s⟩, hp⟩ : ∃ p, p = l.getD k (0, 0, 0) := ⟨_, rfl⟩
        rw [← hp] at C hd hbn
        have hv := V.out
        rw [hd] at hv
        have HV := Lib.hid hv
        have HBN := Lib.hid hbn
        obtain ⟨c0, c1, c2⟩ := C.spelt
        have HC := Lib.hid C
        clear hp hd hv V C hbn
        go_wp2_with fail
        refine (sound_any d tt s _).mono ?_
        rintro e w' ⟨rfl, B1⟩
        have HC1 := Lib.hid (HC.out.below B1)
        have BB := Lib.hid (B.out.trans (B1.mono B.out.size))
        clear c0 c1 c2 B1
        by_cases ho : okP (d, tt, s)
        · have e1 : decide (okP (d, tt, s)) = true := decide_eq_true ho
          rw [e1]
          have HO := Lib.hid ho
          clear e1 ho
          cases k with
          | zero =>
            have HV2 := Lib.hid (HV.out.trans (vw_ok HO.out (by have h0 : 0 ≤ tt := HO.out.2.1.1; show ¬ tt < 0; omega)))
            go_wp2_with fail
            go_quiet (fail)
            go_wp2_with fail
            go_roundw
            case rel => exact ⟨1, by omega, rfl, Lib.hid (by rw [HBN.out]; exact HV2.out), Lib.hid (bdn BB.out)⟩
            case measure => simp [intOf]; omega
          | succ m =>
            obtain ⟨ad', e', C'⟩ := (H.out.below BB.out).at_ m (by rw [← HL.out]; omega)
            obtain rfl : ad = ad' := by injection e'
            have hbm : bef l (m + 1) = (l.getD m (0, 0, 0)).2.1 := rfl
            obtain ⟨⟨d', t, s'⟩, hp⟩ : ∃ p, p = l.getD m (0, 0, 0) := ⟨_, rfl⟩
            rw [← hp] at C' hbm
            obtain ⟨c0, c1, c2⟩ := HC1.out.spelt
            obtain ⟨g0, g1, g2⟩ := C'.spelt
            have HBM := Lib.hid hbm
            clear e' hp hbm C'
            simp only at c0 c1 c2 g0 g1 g2
            go_wp2_with fail
            go_quiet (fail)
            clear c0 c1 c2 g0 g1 g2
            have hv := HV.out
            rw [HBM.out] at hv
            by_cases hlt2 : tt < t
            · have HV2 := Lib.hid (hv.trans (vw_less HO.out hlt2))
              clear hv
              go_wp2_with fail
              go_ret
              exact ⟨ret_int (HP.out.trans HV2.out).symm, bdn BB.out⟩
            · have HV2 := Lib.hid (hv.trans (vw_ok HO.out hlt2))
              clear hv
              go_wp2_with fail
              go_roundw
              case rel => exact ⟨m + 2, by omega, by go_num, Lib.hid (by rw [HBN.out]; exact HV2.out), Lib.hid (bdn BB.out)⟩
              case measure => simp [intOf]; omega
        · have e1 : decide (okP (d, tt, s)) = false := decide_eq_false ho
          have HV2 := Lib.hid (HV.out.trans (vw_bad ho))
          rw [e1]
          clear e1 ho
          go_wp2_with fail
          go_ret
          exact ⟨ret_int (HP.out.trans HV2.out).symm, BB.out⟩
      · obtain rfl : k = L := by omega
        have hv := V.out
        rw [HL.out, List.drop_length] at hv
        have HV := Lib.hid hv
        clear hv hlt hk
        go_wp2_with fail
        go_ret
        exact ⟨ret_int (HP.out.trans HV.out).symm, B.out⟩
end Go.Proofs.YtbpgbdnfoofnaaaDoor
