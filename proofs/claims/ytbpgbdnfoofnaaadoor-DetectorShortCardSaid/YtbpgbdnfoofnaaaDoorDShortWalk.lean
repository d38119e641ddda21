/-
  Stage 4: the walks of DetectorShort and DetectorJoins.
-/
import Derived.Test.YtbpgbdnfoofnaaaDoorDMsg
set_option linter.unusedSimpArgs false
set_option linter.unusedVariables false
namespace Go.Proofs.YtbpgbdnfoofnaaaDoor
open Go.RowKit

set_option maxRecDepth 100000 in
set_option maxHeartbeats 1600000 in
theorem short_walk (l : List Int) (A : Option Addr) (c : Nat) (w : World) (R : RowB .i64 w A l) (hw : ∀ n ∈ l, (Lit.int .i64 n).wf = true) (D : Dat w) :
    Calls Tryd.prog 8 #[.slice A l.length c] w fun e w' => e = .returned (.bool true) ∧ Below w.heap.size w w' := by
  have K0 := Lib.hid (mk_row (c := c) (T := 56) R hw)
  have HD := Lib.hid D
  clear R hw D
  go_enter Tryd.func8, Tryd.ntmps8
  go_wp2_with fail
  refine (new_any A l.length c w).mono ?_
  rintro e w1 ⟨rfl, e1⟩
  have B1 : Below w.heap.size w w1 := by rw [e1]; exact (Below.refl _ _).alloc (Nat.le_refl _) _
  have K1 := Lib.hid (show IsMk w1 w.heap.size 0 by rw [e1]; exact K0.out)
  have HB1 := Lib.hid B1
  clear e1 B1 K0
  go_wp2_with fail
  refine (mpulses_any w.heap.size 0 40 w1 K1.out (by decide) (by decide)).mono ?_
  rintro e w2 ⟨v2, ps, rfl, O2, hps, hrun, K2, M2⟩
  have HB2 := Lib.hid (M2.below HB1.out (Nat.le_refl _) HB1.out.size)
  obtain ⟨A2, c2, rfl, R2, h1, h2, _⟩ := O2.full
  have hvl := values_len ps.length ps (Nat.le_refl _)
  have HE := Lib.hid (enc_run hrun (by omega))
  have tl := two_len (valuesR ps)
  obtain ⟨xs, hxs⟩ : ∃ xs, xs = (valuesR ps).flatMap two := ⟨_, rfl⟩
  rw [← hxs] at HE tl
  have HR2 := Lib.hid R2
  obtain ⟨n, hn⟩ : ∃ n, n = ps.length := ⟨_, rfl⟩
  have HN := Lib.hid hn
  have H1 := Lib.hid h1
  have H2 := Lib.hid h2
  rw [← hn] at hps hvl ⊢
  clear hxs hn R2 O2 M2 K2 hrun h1 h2
  go_wp2_with fail
  refine (enc_at HE.out A2 c2 n HN.out w2 HR2.out H1.out H2.out (HD.out.below' HB2.out)).mono ?_
  rintro e w3 ⟨v3, rfl, O3, B3⟩
  obtain ⟨A3, c3, rfl, _⟩ := Own.rowB O3
  have HB3 := Lib.hid (HB2.out.trans (B3.mono HB2.out.size))
  obtain ⟨N, hN⟩ : ∃ N, N = xs.length := ⟨_, rfl⟩
  rw [← hN] at tl ⊢
  have t1 : (N : Int) ≤ 12 * (n : Int) := by omega
  have t2 : 4 * (n : Int) + ((n : Int) + 7) / 8 * 8 ≤ (N : Int) := by omega
  have t2' : 4 * (n : Int) + 8 * (((n : Int) + 7) / 8) ≤ (N : Int) := by omega
  clear hN O3 B3 tl hvl
  go_wp2_with fail
  refine (sane_any _ (HD.out.below' HB3.out)).mono ?_
  rintro e w4 ⟨rfl, B4⟩
  have HB4 := Lib.hid (HB3.out.trans (B4.mono HB3.out.size))
  clear B4
  go_wp2_with fail
  go_ret
  exact ⟨rfl, HB4.out⟩
end Go.Proofs.YtbpgbdnfoofnaaaDoor
