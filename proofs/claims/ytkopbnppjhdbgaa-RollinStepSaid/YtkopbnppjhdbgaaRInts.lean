/-
  Stage 8: the maker's comparison of any two lists of numbers.
-/
import Derived.Test.YtkopbnppjhdbgaaNum
set_option linter.unusedSimpArgs false
set_option linter.unusedVariables false
namespace Go.Proofs.Ytkopbnppjhdbgaa
open Go.RowKit

theorem ext_getD {a b : List Int} (hl : a.length = b.length) (h : ∀ t, t < a.length → a.getD t 0 = b.getD t 0) : a = b := by
  refine List.ext_getElem hl fun i h1 h2 => ?_
  have := h i h1
  rw [List.getD_eq_getElem?_getD, List.getD_eq_getElem?_getD, List.getElem?_eq_getElem h1, List.getElem?_eq_getElem h2] at this
  exact this
set_option maxHeartbeats 1600000 in
theorem ints_any (zs ys : List Int) (A A' : Option Addr) (n n' c c' : Nat) (w : World) (hn : n = zs.length) (hn' : n' = ys.length) (h : Row .i64 w w.heap.size A zs) (h' : Row .i64 w w.heap.size A' ys) (hl : zs.length ≤ maxLen) (hl' : ys.length ≤ maxLen) :
    Calls Try.prog 30 #[.slice A n c, .slice A' n' c'] w fun e w' => e = .returned (.bool (decide (zs = ys))) ∧ ∃ n, w' = w.drewN n := by
  unfold maxLen at hl hl'
  have H := Lib.hid h
  have H' := Lib.hid h'
  have HL := Lib.hid hn
  have HL' := Lib.hid hn'
  rw [← hn] at hl
  rw [← hn'] at hl'
  clear h h' hn hn'
  by_cases hq : n = n'
  · subst hq
    go_enter Try.func30, Try.ntmps30
    go_wp2_with fail
    go_loopw [5] (fun i wr => (∃ n, wr = w.drewN n) ∧ ∃ k : Nat, k ≤ n ∧ i = .int .i64 k ∧ Hid (∀ t, t < k → zs.getD t 0 = ys.getD t 0)) (fun i _ => n - (intOf i).toNat)
    case atStart => exact ⟨⟨0, rfl⟩, 0, by omega, rfl, Lib.hid fun t ht => absurd ht (Nat.not_lt_zero t)⟩
    case round =>
      obtain ⟨⟨d, hw⟩, k, hk, rfl, HE⟩ := hrel
      have HW := Lib.hid (show ∃ n, wr = w.drewN n from ⟨d, hw⟩)
      by_cases hlt : k < n
      · obtain ⟨a, rfl, _, hc⟩ := H.out k (by rw [← HL.out]; exact hlt)
        obtain ⟨a', rfl, _, hc'⟩ := H'.out k (by rw [← HL'.out]; exact hlt)
        have hd : wr.cell? (a.add k) = w.cell? (a.add k) := by rw [hw]; rfl
        have hd' : wr.cell? (a'.add k) = w.cell? (a'.add k) := by rw [hw]; rfl
        rw [hc] at hd
        rw [hc'] at hd'
        clear hc hc' hw
        by_cases he : zs.getD k 0 = ys.getD k 0
        · have HE2 := Lib.hid (show ∀ t, t < k + 1 → zs.getD t 0 = ys.getD t 0 from fun t ht => by
            by_cases e : t = k
            · subst e; exact he
            · exact HE.out t (by omega))
          rw [← he] at hd'
          generalize zs.getD k 0 = x at hd hd'
          clear he HE
          go_upto_region 6 with fail
          go_quiet (fail)
          clear hd hd'
          go_wp2_with fail
          go_roundw
          case rel => exact ⟨by obtain ⟨n, rfl⟩ := HW.out; exact ⟨n + nq, by rw [World.drewN_drewN]⟩, k + 1, by omega, by go_num, HE2⟩
          case measure => simp [intOf]; omega
        · have HF := Lib.hid (show false = decide (zs = ys) from (decide_eq_false (fun e => he (by rw [e]))).symm)
          have hb : (zs.getD k 0 == ys.getD k 0) = false := beq_eq_false_iff_ne.2 he
          have hb2 : (zs.getD k 0 != ys.getD k 0) = true := by unfold bne; rw [hb]; rfl
          generalize zs.getD k 0 = x at hd hb hb2
          generalize ys.getD k 0 = y at hd' hb hb2
          clear he HE
          go_upto_region 6 with fail
          go_quiet (fail)
          clear hd hd'
          go_wp2_with fail
          go_ret
          exact ⟨by rw [← HF.out]; rfl, by obtain ⟨n, rfl⟩ := HW.out; exact ⟨n + nq, by rw [World.drewN_drewN]⟩⟩
      · clear hw
        obtain rfl : k = n := by omega
        have HF := Lib.hid (show true = decide (zs = ys) from (decide_eq_true (ext_getD (HL.out.symm.trans HL'.out) (fun t ht => HE.out t (by rw [HL.out]; exact ht)))).symm)
        go_wp2_with fail
        go_ret
        exact ⟨by rw [← HF.out]; rfl, HW.out⟩
  · have HF := Lib.hid (show false = decide (zs = ys) from (decide_eq_false (fun e => hq (by rw [HL.out, HL'.out, e]))).symm)
    have hb : ((n : Int) == (n' : Int)) = false := beq_eq_false_iff_ne.2 (by omega)
    have hb2 : ((n : Int) != (n' : Int)) = true := by simp [bne, hb]
    have hb3 : ¬ (n : Int) = (n' : Int) := by omega
    go_enter Try.func30, Try.ntmps30
    go_wp2_with fail
    go_ret
    exact ⟨by rw [← HF.out]; rfl, 0, rfl⟩
end Go.Proofs.Ytkopbnppjhdbgaa
