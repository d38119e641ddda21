/-
  Stage 6: the law's reads.
-/
import Derived.Test.YtjgeolfjhfdbmaaCRdec
import Derived.Test.YtjgeolfjhfdbmaaCSame
set_option linter.unusedSimpArgs false
set_option linter.unusedVariables false
namespace Go.Proofs.Ytjgeolfjhfdbmaa
open Go.RowKit

set_option maxRecDepth 100000 in
set_option maxHeartbeats 3200000 in
theorem reads_any (A : Option Addr) (c : Nat) (bs : List Int) (w : World) (h : BRow w A bs) (hc : bs.length ≤ c ∧ c ≤ maxLen) :
    Calls Try.prog 10 #[.slice A bs.length c] w fun e w' => e = .returned (.bool true) ∧ Below w.heap.size w w' := by
  have H := Lib.hid h
  have HC := Lib.hid hc
  clear h hc
  go_enter Try.func10, Try.ntmps10
  go_wp2_with fail
  refine (pdec_any A c bs w H.out HC.out).mono ?_
  rintro e w1 ⟨v1, rfl, O1, B1⟩
  obtain ⟨⟨l, er⟩, hd⟩ : ∃ t, t = decR bs := ⟨_, rfl⟩
  have HD := Lib.hid hd
  rw [← hd] at O1
  rw [← hd]
  simp only at O1 ⊢
  have HO1 := Lib.hid O1
  have HB1 := Lib.hid B1
  have H1 := Lib.hid (H.out.below B1)
  clear O1 B1 hd
  go_wp2_with fail
  refine (rdec_any A c bs w1 H1.out HC.out).mono ?_
  rintro e w2 ⟨v2, rfl, O2, B2⟩
  rw [← HD.out] at O2
  rw [← HD.out]
  simp only at O2 ⊢
  have HB2 := Lib.hid (HB1.out.trans (B2.mono HB1.out.size))
  have H2 := Lib.hid (H1.out.below B2)
  obtain ⟨A1, c1, rfl, R1⟩ := ROwn.slice (HO1.out.below B2)
  obtain ⟨A2, c2, rfl, R2⟩ := ROwn.slice O2
  have HSM := Lib.hid (wsame_any l A1 A2 c1 c2 w2 R1 R2)
  clear O2 B2 R1 R2 HB1 H1 HO1
  go_wp2_with fail
  refine HSM.out.mono ?_
  rintro e w' ⟨rfl, n, rfl⟩
  have HB3 := Lib.hid (bdn (n := n) HB2.out)
  have H3 := Lib.hid (H2.out.drewN n)
  generalize w2.drewN n = w3 at *
  clear HSM HB2 H2
  go_wp2_with fail
  refine (pchk_any bs A c w3 H3.out).mono ?_
  rintro e w' ⟨rfl, rfl⟩
  go_wp2_with fail
  refine (rchk_any bs A c w3 H3.out).mono ?_
  rintro e w' ⟨rfl, rfl⟩
  go_wp2_with fail
  go_ret
  exact ⟨rfl, HB3.out⟩
end Go.Proofs.Ytjgeolfjhfdbmaa
