/-
  Stage 4: the walk of DetectorOneBit.
-/
import Derived.Test.YtbpgbdnfoofnaaaDoorDSrc
set_option linter.unusedSimpArgs false
set_option linter.unusedVariables false
namespace Go.Proofs.YtbpgbdnfoofnaaaDoor
open Go.RowKit

theorem Good.rest {zs xs : List Int} {k : Nat} (h : Good zs xs k) (hz : ∀ v ∈ zs, okV v) (hk : k ≤ zs.length) : Good zs xs zs.length := by
  obtain ⟨d, hd⟩ : ∃ d, zs.length = k + d := ⟨zs.length - k, by omega⟩
  induction d generalizing k with
  | zero => rw [hd]; exact h
  | succ d ih => exact ih (h.skip hz (by omega)) (by omega) (by omega)
set_option maxRecDepth 100000 in
set_option maxHeartbeats 3200000 in
theorem bit_walk (l : List Int) (A : Option Addr) (c : Nat) (bs : List Int) (A' : Option Addr) (c' : Nat) (w : World) (R : RowB .i64 w A l) (hw : ∀ n ∈ l, (Lit.int .i64 n).wf = true) (R' : RowB .i64 w A' bs) (D : Dat w) :
    Calls Tryd.prog 5 #[.slice A l.length c, .slice A' bs.length c'] w fun e w' => e = .returned (.bool true) ∧ Below w.heap.size w w' := by
  have hl2 : bs.length ≤ 9223372036854775807 := R'.2
  have K0 := Lib.hid (mk_row (c := c) (T := 56) R hw)
  have HD := Lib.hid D
  have HR' := Lib.hid R'
  obtain ⟨M, hM⟩ : ∃ n, n = bs.length := ⟨_, rfl⟩
  have HM := Lib.hid hM
  rw [← hM] at hl2 ⊢
  clear R hw D R' hM
  go_enter Tryd.func5, Tryd.ntmps5
  go_wp2_with fail
  refine (new_any A l.length c w).mono ?_
  rintro e w1 ⟨rfl, e1⟩
  have B1 : Below w.heap.size w w1 := by rw [e1]; exact (Below.refl _ _).alloc (Nat.le_refl _) _
  have K1 := Lib.hid (show IsMk w1 w.heap.size 0 by rw [e1]; exact K0.out)
  have HB1 := Lib.hid B1
  clear e1 B1 K0
  go_wp2_with fail
  refine (mpulses_any w.heap.size 0 30 w1 K1.out (by decide) (by decide)).mono ?_
  rintro e w2 ⟨v2, ps, rfl, O2, hps, hrun, K2, M2⟩
  have HB2 := Lib.hid (M2.below HB1.out (Nat.le_refl _) HB1.out.size)
  obtain ⟨A2, c2, rfl, R2, h1, h2, _⟩ := O2.full
  have hvl := (values_len ps.length ps (Nat.le_refl _)).1
  have HE := Lib.hid (enc_run hrun (by omega))
  have hok := values_okV _ ps (Nat.le_refl _) 0 hrun
  have HOK := Lib.hid hok
  have HG0 := Lib.hid (Good.start hok)
  have HDG := Lib.hid (fun xs (g : Good (valuesR ps) xs (valuesR ps).length) => dec_good hrun (by omega) g)
  obtain ⟨L, hL⟩ : ∃ L, L = valuesR ps := ⟨_, rfl⟩
  rw [← hL] at HE hvl HOK HG0 HDG
  obtain ⟨xs0, hx0⟩ : ∃ xs, xs = L.flatMap two := ⟨_, rfl⟩
  rw [← hx0] at HE HG0
  have HR2 := Lib.hid R2
  have H1 := Lib.hid h1
  have H2 := Lib.hid h2
  obtain ⟨n, hn⟩ : ∃ n, n = L.length := ⟨_, rfl⟩
  have HN := Lib.hid hn
  rw [← hn] at hvl
  clear hx0 hL hn R2 O2 M2 K2 hrun h1 h2 hok
  go_wp2_with fail
  refine (enc_at HE.out A2 c2 _ rfl w2 HR2.out H1.out H2.out (HD.out.below' HB2.out)).mono ?_
  rintro e w3 ⟨v3, rfl, O3, B3⟩
  obtain ⟨A3, c3, rfl, _, _, _, hform⟩ := O3.slice
  have hlen : xs0.length = 2 * n := by rw [HG0.out.len, ← HN.out]
  obtain ⟨N, hN⟩ : ∃ N, N = xs0.length := ⟨_, rfl⟩
  rw [← hN] at O3 hlen ⊢
  have HO := Lib.hid O3
  have HBB := Lib.hid B3
  have HF := Lib.hid hform
  have HNN := Lib.hid hN
  have HL0 := Lib.hid hlen
  have hq : (N : Int) / 2 = (n : Int) := by omega
  have hodd : ((N : Int) % 2 == 1) = false := by rw [beq_eq_false_iff_ne]; omega
  have n180 : n ≤ 180 := by omega
  clear hlen hN O3 B3 hform hvl
  go_wp2_with fail
  go_loopw [8] (fun i wr => ∃ k : Nat, k ≤ n ∧ i = .int .i64 k ∧ Hid (∃ xs, Own .u8 5 wr w2.heap.size (.slice A3 N c3) xs ∧ Good L xs k) ∧ Hid (Below w2.heap.size w2 wr)) (fun i _ => n - (intOf i).toNat)
  case atStart => exact ⟨0, by omega, rfl, Lib.hid ⟨xs0, HO.out, HG0.out⟩, HBB⟩
  case round =>
    clear HO HG0 HBB
    obtain ⟨k, hk, rfl, X, B⟩ := hrel
    obtain ⟨xs, O, G⟩ := X.out
    have HO := Lib.hid O
    have HG := Lib.hid G
    clear X O G
    by_cases hgo : k < n ∧ 0 < M
    · obtain ⟨hlt, hM0⟩ := hgo
      have hkL : k < L.length := by rw [← HN.out]; exact hlt
      obtain ⟨g, rfl, hg1, _⟩ := HF.out (by rw [← HNN.out, HL0.out]; omega)
      have hkm : k % M < bs.length := by rw [← HM.out]; exact Nat.mod_lt _ (by omega)
      obtain ⟨ad, rfl, _, hc⟩ := (HR'.out.1.under (HB2.out.trans (B.out.mono HB2.out.size))) (k % M) hkm
      obtain ⟨z, hz⟩ : ∃ z, z = bs.getD (k % M) 0 := ⟨_, rfl⟩
      rw [← hz] at hc
      have ht := tmod_bd z 17 (by decide)
      obtain ⟨p, hp⟩ : ∃ p : Nat, (z.tmod 17 + 17) % 17 = (p : Int) := ⟨((z.tmod 17 + 17) % 17).toNat, by omega⟩
      have hp2 : z.tmod 17 % 17 = (p : Int) := by omega
      have hpl : p < 17 := by omega
      have q0 : ((M : Int) == 0) = false := beq_eq_false_iff_ne.2 (by omega)
      have q1 : 0 ≤ (k : Int) % (M : Int) := Int.emod_nonneg _ (by omega)
      have q2 : (k : Int) % (M : Int) < (M : Int) := Int.emod_lt_of_pos _ (by omega)
      have q3 : ((k : Int) % (M : Int)).toNat = k % M := by rw [← Int.natCast_emod]; exact Int.toNat_natCast _
      have q4 : 0 < (M : Int) := by omega
      have hxl : N = xs.length := by rw [HG.out.len, HL0.out, ← HN.out]
      have HXL := Lib.hid hxl
      clear hz hkm hxl
      go_upto_region 9 with fail
      simp only [hp, hp2]
      clear ht hp hp2 q0 q1 q2 q3 q4 hc
      by_cases hp16 : p < 16
      · have HK := Lib.hid (HG.out.flip HOK.out hkL hp16)
        clear hkL
        go_wp2_with fail
        refine (flip_any xs g c3 N k p w2.heap.size _ HO.out HXL.out HG.out.byt (by rw [HL0.out]; omega) hp16 hg1 (by rw [HL0.out]; omega)).mono ?_
        rintro e w4 ⟨rfl, O4, M4⟩
        have HO4 := Lib.hid O4
        have HB4 := Lib.hid (M4.below B.out hg1 B.out.size)
        clear O4 M4
        go_wp2_with fail
        go_roundw
        case rel => exact ⟨k + 1, by omega, by go_num, Lib.hid ⟨_, HO4.out, HK.out⟩, HB4⟩
        case measure => simp [intOf]; omega
      · have HK := Lib.hid (HG.out.skip HOK.out hkL)
        clear hkL
        go_wp2_with fail
        go_roundw
        case rel => exact ⟨k + 1, by omega, by go_num, Lib.hid ⟨xs, HO.out, HK.out⟩, B⟩
        case measure => simp [intOf]; omega
    · have HU := Lib.hid (HDG.out xs (HG.out.rest HOK.out (by rw [← HN.out]; exact hk)))
      have hxl : N = xs.length := by rw [HG.out.len, HL0.out, ← HN.out]
      obtain ⟨A5, c5, e5, RX⟩ := Own.rowB HO.out
      have ea : A3 = A5 := by injection e5
      subst ea
      have HXL := Lib.hid hxl
      have HRX := Lib.hid RX
      have BW := Lib.hid (HB2.out.trans (B.out.mono HB2.out.size))
      have HR3 := Lib.hid (HR2.out.below B.out)
      clear e5 RX hxl
      have hcase : (n ≤ k) ∨ (k < n ∧ M = 0) := by omega
      clear hgo
      rcases hcase with hc | ⟨hc, rfl⟩
      all_goals
        first | (have hcd : decide ((k : Int) < (n : Int)) = false := decide_eq_false (by omega)) | skip
        go_wp2_with fail
        refine (dec_at HU.out A3 c3 N HXL.out wr HRX.out HG.out.byt (HD.out.below' BW.out)).mono ?_
        rintro e w4 ⟨A8, c8, A9, c9, rfl, Q8, _, B8⟩
        have HB8 := Lib.hid (BW.out.trans (B8.mono BW.out.size))
        have X8 := Lib.hid Q8
        have X2 := Lib.hid (HR3.out.below B8)
        clear Q8 B8
        go_wp2_with fail
        refine (psame_at A8 A2 c8 c2 _ _ rfl rfl _ X8.out X2.out).mono ?_
        rintro e w' ⟨rfl, n1, rfl⟩
        go_wp2_with fail
        refine (sane_any _ ((HD.out.below' HB8.out).drewN n1)).mono ?_
        rintro e w12 ⟨rfl, B12⟩
        have HB12 := Lib.hid ((bdn (n := n1) HB8.out).trans (B12.mono HB8.out.size))
        clear B12
        go_wp2_with fail
        go_ret
        exact ⟨rfl, HB12.out⟩
end Go.Proofs.YtbpgbdnfoofnaaaDoor
