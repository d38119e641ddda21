/-
  Stage 6: ConsistReturns answers true.
-/
import Derived.Test.YtdgekianmkgeiaaCRet
import Derived.Test.YtdgekianmkgeiaaCSame
import Derived.Test.YtdgekianmkgeiaaCFix
import Derived.Test.YtdgekianmkgeiaaCOneW
set_option linter.unusedSimpArgs false
set_option linter.unusedVariables false
namespace Go.Proofs.Ytdgekianmkgeiaa
open Go.RowKit

/-- The slice that lies in cell k of block b reads as bytes. -/
def SlAt (w : World) (b k : Nat) : Prop := ∃ A c xs, w.cell? ⟨b, k, none⟩ = some (.slice A xs.length c) ∧ BRow w A xs ∧ (xs.length ≤ c ∧ c ≤ maxLen)
theorem SlAt.below {w w' : World} {b k : Nat} (h : SlAt w b k) (hb : b < w.heap.size) (k' : Below w.heap.size w w') : SlAt w' b k := by
  obtain ⟨A, c, xs, h1, h2, h3⟩ := h
  exact ⟨A, c, xs, (k'.cell (p := ⟨b, k, none⟩) hb).trans h1, h2.below k', h3⟩
set_option maxHeartbeats 1600000 in
theorem ret_walk (t : Option Addr) (len cap : Nat) (zs : List Int) (AB : Option Addr) (cb : Nat) (bs : List Int) (w : World) (h : IsRow .i64 w t len cap zs) (hb : BRow w AB bs) (hcb : bs.length ≤ cb ∧ cb ≤ maxLen) :
    Calls Try.prog 4 #[.slice t len cap, .slice AB bs.length cb] w fun e w' => e = .returned (.bool true) ∧ Below w.heap.size w w' := by
  have K0 := Lib.hid (mk_new (T := 53) h)
  have HB0 := Lib.hid hb
  have HC0 := Lib.hid hcb
  clear h hb hcb
  go_enter Try.func4, Try.ntmps4
  go_wp2_with fail
  refine (new_any t len cap w).mono ?_
  rintro e w1 ⟨rfl, e1⟩
  have HB1 := Lib.hid (show Below w.heap.size w w1 by rw [e1]; exact (Below.refl _ _).alloc (Nat.le_refl _) _)
  have K1 := Lib.hid (show IsMk w1 w.heap.size 0 by rw [e1]; exact K0.out)
  clear e1 K0
  go_wp2_with fail
  refine (mwagons_any w.heap.size 0 10 w1 K1.out (by decide) (by decide)).mono ?_
  rintro e w2 ⟨v2, l, rfl, O2, hl10, hmade, K2, M2⟩
  have HB2 := Lib.hid (M2.below HB1.out (Nat.le_refl _) HB1.out.size)
  have HV := Lib.hid (hmade.valid (by omega))
  obtain ⟨A, c, rfl, R, _⟩ := O2.full
  have HR := Lib.hid R
  clear K2 M2 O2 R hmade hl10 K1 HB1
  go_wp2_with fail
  refine (enc_at HV.out A c w2 HR.out).mono ?_
  rintro e w3 ⟨v3, rfl, O3, B3⟩
  have HB3 := Lib.hid (HB2.out.trans (B3.mono HB2.out.size))
  have HR3 := Lib.hid (HR.out.below B3)
  have hcap3 := Own.brow O3 (enc_bd HV.out).1 (by have := (enc_bd HV.out).2; omega)
  obtain ⟨A3, c3, rfl, R3, hc3⟩ := hcap3
  have hm3 := Own.cap O3
  have HD := Lib.hid (dec_enc HV.out)
  clear O3 B3 HB2 HR
  go_wp2_with fail
  have hdec := pdec_any A3 c3 (enc l) w3 R3 ⟨hc3, hm3⟩
  unfold DecPost at hdec
  rw [HD.out] at hdec
  refine hdec.mono ?_
  rintro e w4 ⟨v4, rfl, O4, B4⟩
  have HB4 := Lib.hid (HB3.out.trans (B4.mono HB3.out.size))
  have HR4 := Lib.hid (HR3.out.below B4)
  obtain ⟨A4, c4, rfl, R4⟩ := ROwn.slice O4
  clear hdec O4 B4 hc3 hm3 R3 HB3 HR3
  go_wp2_with fail
  refine (wsame_any l A4 A c4 c w4 R4 HR4.out).mono ?_
  rintro e w' ⟨rfl, n, rfl⟩
  have HB5 := Lib.hid (bdn (n := n) HB4.out)
  generalize w4.drewN n = w5 at *
  clear R4 HR4 HB4
  go_wp2_with fail
  have HBB := Lib.hid (HB0.out.below HB5.out)
  refine (fixed_any AB cb bs w5 HBB.out HC0.out).mono ?_
  rintro e w6 ⟨A6, c6, xs, rfl, R6, hc6, B6⟩
  have HB6 := Lib.hid (HB5.out.trans (B6.mono HB5.out.size))
  have S0 := Lib.hid (show SlAt (w6.alloc (.cells #[.slice AB bs.length cb, .slice A6 xs.length c6] 24)) w6.heap.size 0 from ⟨AB, cb, bs, by rw [cell_new]; rfl, (HBB.out.below B6).alloc _, HC0.out⟩)
  have S1 := Lib.hid (show SlAt (w6.alloc (.cells #[.slice AB bs.length cb, .slice A6 xs.length c6] 24)) w6.heap.size 1 from ⟨A6, c6, xs, by rw [cell_new]; rfl, R6.alloc _, hc6⟩)
  have HB7 := Lib.hid (HB6.out.alloc HB6.out.size (.cells #[.slice AB bs.length cb, .slice A6 xs.length c6] 24))
  have HBL := Lib.hid (show w6.heap.size < (w6.alloc (.cells #[.slice AB bs.length cb, .slice A6 xs.length c6] 24)).heap.size from by simp)
  clear R6 hc6 B6 HBB HB6 HB5
  go_upto_region 7 with fail
  obtain ⟨b0, eb⟩ : ∃ b, b = w6.heap.size := ⟨_, rfl⟩
  rw [← eb] at S0 S1 HBL ⊢
  clear eb
  generalize w6.alloc (.cells #[.slice AB bs.length cb, .slice A6 xs.length c6] 24) = w7 at *
  have HSL := Lib.hid (show ∀ k, k < 2 → SlAt w7 b0 k from fun k hk => by
    obtain rfl | rfl : k = 0 ∨ k = 1 := by omega
    · exact S0.out
    · exact S1.out)
  clear S0 S1 HB0 HC0 HV HD
  go_loopw [46] (fun i wr => ∃ k : Nat, k ≤ 2 ∧ i = .int .i64 k ∧ Hid (Below w7.heap.size w7 wr)) (fun i _ => 2 - (intOf i).toNat)
  case atStart => exact ⟨0, by omega, rfl, Lib.hid (Below.refl _ _)⟩
  case round =>
    obtain ⟨k, hk, rfl, HK⟩ := hrel
    have HB8 := Lib.hid (HB7.out.trans (HK.out.mono HB7.out.size))
    by_cases hlt : k < 2
    · obtain ⟨A8, c8, ys, hcell, R8, hc8⟩ := (HSL.out k hlt).below HBL.out HK.out
      have HR8 := Lib.hid R8
      have HC8 := Lib.hid hc8
      have hl8 := R8.len
      have hcap8 := hc8.1
      obtain ⟨L, hL⟩ : ∃ L, L = ys.length := ⟨_, rfl⟩
      have HL := Lib.hid hL
      rw [← hL] at hcell hl8 hcap8
      clear R8 hc8 hL
      by_cases h300 : 300 < L
      · go_wp2_with fail
        go_roundw
        case rel => exact ⟨k + 1, by omega, by go_num, HK⟩
        case measure => simp [intOf]; omega
      · go_wp2_with fail
        have hdec := pdec_any A8 c8 ys wr HR8.out HC8.out
        rw [← HL.out] at hdec
        refine hdec.mono ?_
        rintro e w9 ⟨v9, rfl, O9, B9⟩
        clear hdec hcell
        obtain ⟨⟨m, x⟩, hm⟩ : ∃ p, p = decR ys := ⟨_, rfl⟩
        have HM := Lib.hid hm
        rw [← hm] at O9
        rw [← hm]
        simp only at O9 ⊢
        have HB9 := Lib.hid (HK.out.trans (B9.mono HK.out.size))
        have HR9 := Lib.hid (HR8.out.below B9)
        obtain ⟨A9, c9, rfl, R9⟩ := ROwn.slice O9
        have HM9 := Lib.hid R9
        clear hm O9 B9 R9
        by_cases hx : x ≠ 0
        · have hx' : (x != 0) = true := bne_iff_ne.2 hx
          go_wp2_with fail
          go_roundw
          case rel => exact ⟨k + 1, by omega, by go_num, HB9⟩
          case measure => simp [intOf]; omega
        · obtain rfl : x = 0 := Decidable.of_not_not hx
          obtain ⟨hv, he⟩ := enc_dec HR8.out.bd HM.out.symm
          have HE := Lib.hid he
          clear hx he
          go_wp2_with fail
          refine (enc_at hv A9 c9 w9 HM9.out).mono ?_
          rintro e w10 ⟨v10, rfl, O10, B10⟩
          rw [HE.out] at O10
          have HB10 := Lib.hid (HB9.out.trans (B10.mono HB9.out.size))
          have HR10 := Lib.hid (HR9.out.below B10)
          obtain ⟨A10, c10, rfl, R10, _, hml, _⟩ := Own.slice O10
          have HSM := Lib.hid (bytes_same ys A8 A10 c8 c10 w10 HR10.out.row R10 hml)
          rw [← HL.out] at HSM
          rw [← HL.out]
          clear O10 B10 R10 hml hv
          go_wp2_with fail
          refine HSM.out.mono ?_
          rintro e w' ⟨rfl, n, rfl⟩
          go_wp2_with fail
          go_roundw
          case rel => exact ⟨k + 1, by omega, by go_num, Lib.hid (bdn (n := n) HB10.out)⟩
          case measure => simp [intOf]; omega
    · obtain rfl : k = 2 := by omega
      clear hlt hk
      go_wp2_with fail
      refine (sane_any _).mono ?_
      rintro e w9 ⟨rfl, B9⟩
      go_wp2_with fail
      go_ret
      exact ⟨rfl, HB8.out.trans (B9.mono HB8.out.size)⟩
end Go.Proofs.Ytdgekianmkgeiaa
