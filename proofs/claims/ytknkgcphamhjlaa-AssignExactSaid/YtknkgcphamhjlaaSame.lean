/-
  The maker's comparisons: two lists that read alike are the same.
-/
import Derived.Test.YtknkgcphamhjlaaNum
set_option linter.unusedSimpArgs false
set_option linter.unusedVariables false
namespace Go.Proofs.Ytknkgcphamhjlaa
open Go.RowKit

theorem ints_same (zs : List Int) (A A' : Option Addr) (c c' : Nat) (w : World) (h : Row .i64 w w.heap.size A zs) (h' : Row .i64 w w.heap.size A' zs) (hl : zs.length ≤ maxLen) :
    Calls Try.prog 27 #[.slice A zs.length c, .slice A' zs.length c'] w fun e w' => e = .returned (.bool true) ∧ ∃ n, w' = w.drewN n := by
  unfold maxLen at hl
  obtain ⟨L, hL⟩ : ∃ n, n = zs.length := ⟨_, rfl⟩
  have H := Lib.hid h
  have H' := Lib.hid h'
  have HL := Lib.hid hL
  rw [← hL] at hl ⊢
  clear h h' hL
  go_enter Try.func27, Try.ntmps27
  go_wp2_with fail
  go_loopw [5] (fun i wr => (∃ n, wr = w.drewN n) ∧ ∃ k : Nat, k ≤ L ∧ i = .int .i64 k) (fun i _ => L - (intOf i).toNat)
  case atStart => exact ⟨⟨0, rfl⟩, 0, by omega, rfl⟩
  case round =>
    obtain ⟨⟨n, hw⟩, k, hk, rfl⟩ := hrel
    have HW := Lib.hid (show ∃ n, wr = w.drewN n from ⟨n, hw⟩)
    by_cases hlt : k < L
    · obtain ⟨a, rfl, _, hc⟩ := H.out k (by rw [← HL.out]; exact hlt)
      obtain ⟨a', rfl, _, hc'⟩ := H'.out k (by rw [← HL.out]; exact hlt)
      have hd : wr.cell? (a.add k) = w.cell? (a.add k) := by rw [hw]; rfl
      have hd' : wr.cell? (a'.add k) = w.cell? (a'.add k) := by rw [hw]; rfl
      rw [hc] at hd
      rw [hc'] at hd'
      clear hc hc' hw
      go_upto_region 6 with fail
      go_quiet (fail)
      clear hd hd'
      go_wp2_with fail
      go_roundw
      case rel => exact ⟨by obtain ⟨n, rfl⟩ := HW.out; exact ⟨n + nq, by rw [World.drewN_drewN]⟩, k + 1, by omega, by go_num⟩
      case measure => simp [intOf]; omega
    · clear hw
      go_wp2_with fail
      go_ret
      exact ⟨rfl, HW.out⟩
end Go.Proofs.Ytknkgcphamhjlaa
