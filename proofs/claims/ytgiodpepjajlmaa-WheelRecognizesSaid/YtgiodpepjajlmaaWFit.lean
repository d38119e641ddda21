/-
  Stage 7: the reference's fit.
-/
import Derived.Test.YtgiodpepjajlmaaWCmp
set_option linter.unusedSimpArgs false
set_option linter.unusedVariables false
namespace Go.Proofs.Ytgiodpepjajlmaa
open Go.RowKit

def fitV (x : Option Int) : Int := match x with | some s => s | none => -1
def FitPost (d p : List Int) (tol : Int) (w : World) (e : Ending) (w' : World) : Prop := e = .returned (.int .i64 (fitV (cmpV d p tol))) ∧ ∃ n, w' = w.drewN n
theorem FitPost.no {d p : List Int} {tol : Int} {w w' : World} (h : cmpV d p tol = none) (hw : ∃ n, w' = w.drewN n) : FitPost d p tol w (.returned (.int .i64 (-1))) w' := ⟨by rw [h]; rfl, hw⟩
theorem FitPost.yes {d p : List Int} {tol s : Int} {w w' : World} (h : cmpV d p tol = some s) (hw : ∃ n, w' = w.drewN n) : FitPost d p tol w (.returned (.int .i64 s)) w' := ⟨by rw [h]; rfl, hw⟩
set_option maxHeartbeats 3200000 in
theorem fit_any (d p : List Int) (tol : Int) (A A2 : Option Addr) (c c2 : Nat) (w : World) (h : Row .i64 w w.heap.size A d) (h2 : Row .i64 w w.heap.size A2 p) (hc : Cmp d p tol) :
    Calls Try.prog 52 #[.slice A d.length c, .slice A2 p.length c2, .int .i64 tol] w (FitPost d p tol w) := by
  have t0 := hc.t0
  have t1 := hc.t1
  have p5 := hc.p5
  have dl := hc.dl
  have H := Lib.hid h
  have H2 := Lib.hid h2
  have HC := Lib.hid hc
  obtain ⟨L, hL⟩ : ∃ n, n = d.length := ⟨_, rfl⟩
  obtain ⟨M, hM⟩ : ∃ n, n = p.length := ⟨_, rfl⟩
  have HL := Lib.hid hL
  have HM := Lib.hid hM
  rw [← hL] at dl ⊢
  rw [← hM] at p5 ⊢
  clear h h2 hL hM hc
  by_cases hlong : L < M
  · have HF := Lib.hid (show cmpV d p tol = none from cmpV_long (by rw [← HL.out, ← HM.out]; exact hlong))
    have hb : (L : Int) < (M : Int) := by omega
    go_enter Try.func52, Try.ntmps52
    go_wp2_with fail
    go_ret
    exact FitPost.no HF.out ⟨0, rfl⟩
  · have HV := Lib.hid (show cmpV d p tol = cmpK d p tol M by rw [HM.out]; exact cmpV_at (by rw [← HL.out, ← HM.out]; omega))
    have hb : ¬ (L : Int) < (M : Int) := by omega
    go_enter Try.func52, Try.ntmps52
    go_wp2_with fail
    go_loopw [7, 8] (fun s i wr => ∃ k : Nat, k ≤ M ∧ i = .int .i64 k ∧ ∃ z : Int, s = .int .i64 z ∧ Hid (cmpK d p tol k = some z) ∧ Hid (∃ n, wr = w.drewN n)) (fun _ i _ => M - (intOf i).toNat)
    case atStart => exact ⟨0, by omega, rfl, 0, rfl, Lib.hid rfl, Lib.hid ⟨0, rfl⟩⟩
    case round =>
      obtain ⟨k, hk, rfl, z, rfl, S, W⟩ := hrel
      by_cases hlt : k < M
      · have HB := (show Below w.heap.size w wr from by obtain ⟨n, rfl⟩ := W.out; exact bdn (Below.refl _ _))
        have HWR := Lib.hid (fun n : Nat => show ∃ m, wr.drewN n = w.drewN m from by obtain ⟨m, rfl⟩ := W.out; exact ⟨m + n, by rw [World.drewN_drewN]⟩)
        obtain ⟨ad, rfl, -, c1⟩ := (H.out.under HB) k (by rw [← HL.out]; omega)
        obtain ⟨ad2, rfl, -, c3⟩ := (H2.out.under HB) k (by rw [← HM.out]; exact hlt)
        have x1 := HC.out.dd _ (getD_mem (k := k) (zs := d) (by rw [← HL.out]; omega))
        have y1 := HC.out.pp _ (getD_mem (k := k) (zs := p) (by rw [← HM.out]; exact hlt))
        have sb := cmpK_bd S.out
        obtain ⟨x, hx⟩ : ∃ x, x = d.getD k 0 := ⟨_, rfl⟩
        obtain ⟨y, hy⟩ : ∃ y, y = p.getD k 0 := ⟨_, rfl⟩
        have HBAD := Lib.hid (show ¬ ab x y ≤ tol → cmpV d p tol = none from fun g => by rw [HV.out]; exact cmpK_none (cmpK_bad (by rw [← hx, ← hy]; exact g)) hlt)
        have HGOOD := Lib.hid (show ab x y ≤ tol → cmpK d p tol (k + 1) = some (z + ab x y) from fun g => by rw [hx, hy]; exact cmpK_good S.out (by rw [← hx, ← hy]; exact g))
        rw [← hx] at c1 x1
        rw [← hy] at c3 y1
        have hzb : 0 ≤ z ∧ z ≤ 50000 := by
          have : tol * (k : Int) ≤ 10000 * 5 := Int.mul_le_mul t1 (by omega) (by omega) (by omega)
          omega
        have w1 : IntKind.i64.wrap (x - y) = x - y := IntWalk.i64_in _ (by omega)
        have k0 : (0 : Int) ≤ (k : Int) := by omega
        have k1 : (k : Int) < (L : Int) := by omega
        rw [ab_ref] at HBAD HGOOD
        obtain ⟨z1, z2⟩ := hzb
        clear hx hy sb HB W
        go_upto_region 7 with fail
        go_region
        have HW1 := Lib.hid (HWR.out 1)
        have e1 : wr.drewN 1 = wr.drew := rfl
        rw [e1] at HW1
        obtain ⟨D, hD⟩ : ∃ D, D = x - y := ⟨_, rfl⟩
        have hDb : -10000 ≤ D ∧ D ≤ 10000 := by omega
        obtain ⟨d1, d2⟩ := hDb
        rw [← hD] at HBAD HGOOD ⊢
        clear c1 c3 w1 e1 hD x1 y1
        by_cases hn : D < 0
        · have HB2 := Lib.hid (show ¬ (-D ≤ tol) → cmpV d p tol = none from fun g => HBAD.out (by rw [if_pos hn]; exact g))
          have HG2 := Lib.hid (show -D ≤ tol → cmpK d p tol (k + 1) = some (z + -D) from fun g => by have := HGOOD.out (by rw [if_pos hn]; exact g); rwa [if_pos hn] at this)
          by_cases hbd : tol < -D
          · have HF := Lib.hid (HB2.out (by omega))
            go_wp2_with fail
            go_ret
            exact FitPost.no HF.out HW1.out
          · have HG := Lib.hid (HG2.out (by omega))
            go_wp2_with fail
            go_roundw
            case rel => exact ⟨k + 1, by omega, by go_num, _, rfl, HG, HW1⟩
            case measure => simp [intOf] <;> omega
        · have HB2 := Lib.hid (show ¬ (D ≤ tol) → cmpV d p tol = none from fun g => HBAD.out (by rw [if_neg hn]; exact g))
          have HG2 := Lib.hid (show D ≤ tol → cmpK d p tol (k + 1) = some (z + D) from fun g => by have := HGOOD.out (by rw [if_neg hn]; exact g); rwa [if_neg hn] at this)
          by_cases hbd : tol < D
          · have HF := Lib.hid (HB2.out (by omega))
            go_wp2_with fail
            go_ret
            exact FitPost.no HF.out HW1.out
          · have HG := Lib.hid (HG2.out (by omega))
            go_wp2_with fail
            go_roundw
            case rel => exact ⟨k + 1, by omega, by go_num, _, rfl, HG, HW1⟩
            case measure => simp [intOf] <;> omega
      · obtain rfl : k = M := by omega
        have HF := Lib.hid (HV.out.trans S.out)
        go_wp2_with fail
        go_ret
        exact FitPost.yes HF.out W.out
end Go.Proofs.Ytgiodpepjajlmaa
