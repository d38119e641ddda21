/-
  Stage 3: the walk of HammingPacks.
-/
import Derived.Test.YtlfgmbdidjfcjaaDoorHFlip
import Derived.BigRegion
set_option linter.unusedSimpArgs false
set_option linter.unusedVariables false
namespace Go.Proofs.YtlfgmbdidjfcjaaDoor
open Go.RowKit

theorem chg_run (x p : Nat) (hx : x < 256) (hp : p < 16) : bits .xor .u8 (x : Int) (IntKind.u8.wrap (2 ^ (p % 8))) = (chg x p : Int) := by
  have h1 : ∀ r, r < 8 → IntKind.u8.wrap (2 ^ r) = ((1 <<< r : Nat) : Int) ∧ (1 <<< r : Nat) < 256 := by decide +kernel
  obtain ⟨e1, e2⟩ := h1 (p % 8) (by omega)
  rw [e1]
  exact u8_xor_nat x (1 <<< (p % 8)) hx e2
theorem chg_run' (x p : Nat) (hx : x < 256) (hp : p < 16) : bits .xor .u8 (x : Int) (2 ^ (p % 8) % 256) = (chg x p : Int) := by
  have h1 : ∀ r, r < 8 → (2 ^ r % 256 : Int) = ((1 <<< r : Nat) : Int) ∧ (1 <<< r : Nat) < 256 := by decide +kernel
  obtain ⟨e1, e2⟩ := h1 (p % 8) (by omega)
  rw [e1]
  exact u8_xor_nat x (1 <<< (p % 8)) hx e2
theorem flipX_at {xs : List Int} {k p j x : Nat} (hj : j = plc k p) (hx : xs.getD j 0 = x) : flipX xs k p = xs.set j (chg x p : Int) := by
  subst hj; unfold flipX; rw [hx, Int.toNat_natCast]
theorem packR_vals (zs : List Int) : packR (vals zs) = ((vals zs).flatMap two, 0) := packR_ok (by have := vals_len zs; omega) (vals_ok zs)

set_option maxRecDepth 100000 in
set_option maxHeartbeats 3200000 in
theorem packs_walk (l : List Int) (A : Option Addr) (c : Nat) (bs : List Int) (A' : Option Addr) (c' : Nat) (w : World)
    (R : RowB .i64 w A l) (R' : RowB .i64 w A' bs) (D : Dat w) :
    Calls Tryd.prog 8 #[.slice A l.length c, .slice A' bs.length c'] w fun e w' => e = .returned (.bool true) ∧ Below w.heap.size w w' := by
  have hl2 : bs.length ≤ 9223372036854775807 := R'.2
  have HR := Lib.hid R
  have HR' := Lib.hid R'
  have HD := Lib.hid D
  clear R R' D
  obtain ⟨M, hM⟩ : ∃ n, n = bs.length := ⟨_, rfl⟩
  have HM := Lib.hid hM
  rw [← hM] at hl2 ⊢
  clear hM
  go_enter Tryd.func8, Tryd.ntmps8
  go_wp2_with fail
  refine (values_any l A c _ HR.out).mono ?_
  rintro e w1 ⟨v1, rfl, O1, B1⟩
  have HB1 := Lib.hid B1
  have HP := Lib.hid (packR_vals l)
  have HV := Lib.hid (vals_ok l)
  have ln := vals_len l
  obtain ⟨L, hL⟩ : ∃ L, L = vals l := ⟨_, rfl⟩
  rw [← hL] at O1 HP HV ln
  obtain ⟨A1, c1, rfl, R1⟩ := Own.rowB O1
  have HR1 := Lib.hid R1
  have HD1 := Lib.hid (HD.out.below B1 HD.out.lt)
  clear O1 B1 R1 hL
  obtain ⟨n, hn⟩ : ∃ n, n = L.length := ⟨_, rfl⟩
  have HN := Lib.hid hn
  go_wp2_with fail
  refine (pack_any L A1 c1 _ HR1.out.1 HR1.out.2 HD1.out).mono ?_
  rintro e w2 ⟨v2, rfl, O2, B2⟩
  rw [HP.out] at O2 ⊢
  have G0 := Good.start HV.out
  rw [← hn] at ln ⊢
  clear hn
  obtain ⟨xs0, hx0⟩ : ∃ xs, xs = L.flatMap two := ⟨_, rfl⟩
  rw [← hx0] at O2 G0
  have hlen : xs0.length = 2 * n := by rw [G0.len, ← HN.out]
  obtain ⟨A2, c2, rfl, _, _, _, hform⟩ := Own.slice O2
  obtain ⟨N, hN⟩ : ∃ N, N = xs0.length := ⟨_, rfl⟩
  rw [← hN] at O2
  have HO := Lib.hid O2
  have HG := Lib.hid G0
  have HB2 := Lib.hid B2
  have HF := Lib.hid hform
  have HNN := Lib.hid hN
  have HL0 := Lib.hid hlen
  rw [← hN] at hlen ⊢
  have n1 : N ≤ 2 * n := by omega
  have n2 : 2 * n ≤ N := by omega
  have hne : ((N : Int) != 2 * (n : Int)) = false := by rw [bne_eq_false_iff_eq]; omega
  clear hlen hN G0 O2 B2 hform hx0
  go_wp2_with fail
  go_loopw [31] (fun i wr => ∃ k : Nat, k ≤ n ∧ i = .int .i64 k ∧ Hid (∃ xs, Own .u8 5 wr w1.heap.size (.slice A2 N c2) xs ∧ Good L xs k) ∧ Hid (Below w1.heap.size w1 wr)) (fun i _ => n - (intOf i).toNat)
  case atStart => exact ⟨0, by omega, rfl, ⟨xs0, HO.out, HG.out⟩, HB2.out⟩
  case round =>
    clear HO HG HB2
    obtain ⟨k, hk, rfl, X, B⟩ := hrel
    obtain ⟨xs, O, G⟩ := X.out
    have HO := Lib.hid O
    have HG := Lib.hid G
    clear X O G
    by_cases hlt : k < n
    · have hkL : k < L.length := by rw [← HN.out]; exact hlt
      obtain ⟨g, rfl, hg1, _⟩ := HF.out (by rw [← HNN.out]; omega)
      by_cases hM0 : M = 0
      · have hM1 : (M : Int) ≤ 0 := by omega
        have HK := Lib.hid (HG.out.skip HV.out hkL)
        clear hkL
        go_wp2_with fail
        go_roundw
        case rel => exact ⟨k + 1, by omega, by go_num, ⟨xs, HO.out, HK.out⟩, B⟩
        case measure => simp [intOf]; omega
      · have hkm : k % M < bs.length := by rw [← HM.out]; exact Nat.mod_lt _ (by omega)
        obtain ⟨ad, rfl, _, hc⟩ := (HR'.out.1.under (HB1.out.trans (B.out.mono HB1.out.size))) (k % M) hkm
        obtain ⟨z, hz⟩ : ∃ z, z = bs.getD (k % M) 0 := ⟨_, rfl⟩
        rw [← hz] at hc
        have ht := tmod_bd z 17 (by decide)
        obtain ⟨p, hp⟩ : ∃ p : Nat, (z.tmod 17 + 17) % 17 = (p : Int) := ⟨((z.tmod 17 + 17) % 17).toNat, by omega⟩
        have hp2 : z.tmod 17 % 17 = (p : Int) := by omega
        have hpl : p < 17 := by omega
        have q0 : ((M : Int) == 0) = false := beq_eq_false_iff_ne.2 (by omega)
        have q1 : 0 ≤ (k : Int) % (M : Int) := Int.emod_nonneg _ (by omega)
        have q2 : (k : Int) % (M : Int) < (M : Int) := Int.emod_lt_of_pos _ (by omega)
        have q3 : ((k : Int) % (M : Int)).toNat = k % M := by rw [← Int.natCast_emod]; exact Int.toNat_natCast _
        have q4 : 0 < (M : Int) := by omega
        clear hz hkm
        by_cases hp16 : p < 16
        · obtain ⟨j, hj⟩ : ∃ j, j = plc k p := ⟨_, rfl⟩
          have hjN : j < xs.length := by rw [HG.out.len, hj]; unfold plc; omega
          have hj1 : 2 * (k : Int) + 1 - (p : Int) / 8 = (j : Int) := by rw [hj]; unfold plc; omega
          have hj2 : j < N := by rw [hj]; unfold plc; omega
          obtain ⟨x, hx, lx⟩ := HG.out.byt.nat hjN
          have hxl : xs.length = N := by rw [HG.out.len, HNN.out, HL0.out, ← HN.out]
          have hcx := HO.out.cell hxl.symm j hjN
          have hfx := HO.out.frozen hxl.symm j
          rw [hx] at hcx
          have cr := chg_run x p lx hp16
          have HJ := Lib.hid hj
          have HX := Lib.hid hx
          have HXL := Lib.hid hxl
          clear hj hx hxl
          go_upto_region 11 with fail
          simp only [hp, hp2]
          have w0 : IntKind.i64.wrap (2 * (k : Int)) = 2 * (k : Int) := IntWalk.i64_in _ (by omega)
          have w1' : IntKind.i64.wrap (2 * (k : Int) + 1) = 2 * (k : Int) + 1 := IntWalk.i64_in _ (by omega)
          have w2' : IntKind.i64.wrap (2 * (k : Int) + 1 - (p : Int) / 8) = (j : Int) := by rw [hj1]; exact IntWalk.i64_in _ (by omega)
          clear ht hp hp2 q0 q1 q2 q3 q4 hc
          go_region
          rw [chg_run' x p lx hp16]
          have HK := Lib.hid (HG.out.flip HV.out hkL hp16)
          have HS := Lib.hid (HO.out.store HXL.out.symm j (chg x p : Int))
          have FE := Lib.hid (flipX_at HJ.out HX.out)
          clear hcx hfx cr w0 w1' w2' hj1 hjN hkL
          go_wp2_with fail
          go_roundw
          case rel => exact ⟨k + 1, by omega, by go_num, ⟨_, HS.out, by rw [← FE.out]; exact HK.out⟩, (B.out.setCell hg1 _).drew⟩
          case measure => simp [intOf]; omega
        · have HK := Lib.hid (HG.out.skip HV.out hkL)
          clear hkL
          go_wp2_with fail
          go_roundw
          case rel => exact ⟨k + 1, by omega, by go_num, ⟨xs, HO.out, HK.out⟩, B⟩
          case measure => simp [intOf]; omega
    · obtain rfl : k = n := by omega
      have hxl : xs.length = N := by rw [HG.out.len, HNN.out, HL0.out, ← HN.out]
      have HU := Lib.hid ((show Good L xs L.length by rw [← HN.out]; exact HG.out).unpack (by rw [← HN.out]; omega))
      obtain ⟨A5, c5, e5, RX⟩ := Own.rowB HO.out
      have ea : A2 = A5 := by injection e5
      subst ea
      have BW := Lib.hid (HB1.out.trans (B.out.mono HB1.out.size))
      have cu := unpack_row HU.out A2 c2 wr RX HG.out.byt (HD1.out.below B.out HD1.out.lt)
      rw [hxl] at cu
      have HR1' := Lib.hid (HR1.out.below B.out)
      clear e5 hxl RX hk hlt
      go_wp2_with fail
      refine cu.mono ?_
      rintro e w3 ⟨A3, c3, A4, c4, rfl, R3, R4, B3⟩
      have ci := fun w' (b : Below w3.heap.size w3 w') => ints_same L A3 A1 c3 c1 w' (R3.below b).1 ((HR1'.out.below B3).below b).1 R3.2
      rw [← HN.out] at ci ⊢
      have HB3 := Lib.hid (BW.out.trans (B3.mono BW.out.size))
      have HCI := Lib.hid ci
      clear cu R3 R4 B3 ci
      go_wp2_with fail
      refine (HCI.out _ (Below.refl _ _)).mono ?_
      rintro e w' ⟨rfl, n3, rfl⟩
      go_wp2_with fail
      refine (sane_any _ ((HD.out.below HB3.out HD.out.lt).drewN _)).mono ?_
      rintro e w' ⟨rfl, n4, rfl⟩
      go_wp2_with fail
      go_ret
      exact ⟨rfl, bdn HB3.out⟩
end Go.Proofs.YtlfgmbdidjfcjaaDoor
