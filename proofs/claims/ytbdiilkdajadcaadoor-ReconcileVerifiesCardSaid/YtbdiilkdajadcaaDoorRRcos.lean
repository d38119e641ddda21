/-
  Stage 8: the reference's Cost.
-/
import Derived.Test.YtbdiilkdajadcaaDoorREdit
import Derived.Test.YtbdiilkdajadcaaDoorRCost
set_option linter.unusedSimpArgs false
set_option linter.unusedVariables false
namespace Go.Proofs.YtbdiilkdajadcaaDoor
open Go.RowKit

set_option maxRecDepth 100000 in
set_option maxHeartbeats 6400000 in
theorem rcos_any (a b es : List Int) (A B E : Option Addr) (ca cb ce : Nat) (w : World) (la : a.length ≤ 1000000000) (lb : b.length ≤ 1000000000) (le : es.length ≤ maxLen) (ha : Row .i64 w w.heap.size A a) (hb : Row .i64 w w.heap.size B b) (he : Row .i64 w w.heap.size E es) :
    Calls Tryd.prog 22 #[.slice A a.length ca, .slice B b.length cb, .slice E es.length ce] w fun e w' => e = .returned (R2 (cosR a b es)) ∧ Below w.heap.size w w' := by
  have HL := Lib.hid (rlong_any A B a.length ca b.length cb w la lb)
  by_cases hl : lngP a b
  · have HR := Lib.hid (show cosR a b es = (0, 3) from if_pos hl)
    rw [decide_eq_true (show 96 < a.length ∨ 96 < b.length from hl)] at HL
    go_enter Tryd.func22, Tryd.ntmps22
    go_wp2_with (first | (go_at_call 31; refine HL.out.mono ?_; rintro e w' ⟨rfl, rfl⟩))
    refine bodyPost_ret (results_tmp2R rfl _ _ _ _ rfl rfl) rfl ?_
    rw [HR.out]
    exact ⟨rfl, Below.refl _ _⟩
  rw [decide_eq_false (show ¬ (96 < a.length ∨ 96 < b.length) from hl)] at HL
  have l1 : a.length ≤ 96 := by unfold lngP at hl; omega
  have l2 : b.length ≤ 96 := by unfold lngP at hl; omega
  have HLN := Lib.hid hl
  have HE := Lib.hid he
  have HA := Lib.hid ha
  have HB := Lib.hid hb
  unfold maxLen at le
  obtain ⟨N, hN⟩ : ∃ N, N = es.length := ⟨_, rfl⟩
  have HN := Lib.hid hN
  rw [← hN] at le ⊢
  clear ha hb he hl la lb hN
  go_enter Tryd.func22, Tryd.ntmps22
  go_wp2_with (first | (go_at_call 31; refine HL.out.mono ?_; rintro e w' ⟨rfl, rfl⟩))
  clear HL
  go_loopw [8, 9, 10, 11] (fun vi vj vc vk wr => ∃ (i j k : Nat) (c : Int), k ≤ N ∧ i ≤ a.length ∧ j ≤ b.length ∧ vi = .int .i64 (i : Int) ∧ vj = .int .i64 (j : Int) ∧ vc = .int .i64 c ∧ vk = .int .i64 (k : Int) ∧ 0 ≤ c ∧ c ≤ 4 * (i : Int) + 4 * (j : Int) ∧ Hid (wlk a b (some (0, 0, 0)) (es.take k) = some (i, j, c)) ∧ Hid (Below w.heap.size w wr)) (fun _ _ _ vk _ => N - (intOf vk).toNat)
  case atStart => exact ⟨0, 0, 0, 0, by omega, by omega, by omega, rfl, rfl, rfl, rfl, by omega, by omega, Lib.hid rfl, Lib.hid (Below.refl _ _)⟩
  case round =>
    obtain ⟨i, j, k, c, hk, hi, hj, rfl, rfl, rfl, rfl, c0, c4, HW, HBL⟩ := hrel
    by_cases hlt : k < N
    · have hlt' : (k : Int) < (N : Int) := by omega
      have hst := wlk_take (a := a) (b := b) (s := some (0, 0, 0)) (k := k) (es := es) (by rw [← HN.out]; exact hlt)
      rw [HW.out] at hst
      obtain ⟨ad, rfl, -, cel⟩ := HE.out.under HBL.out k (by rw [← HN.out]; exact hlt)
      obtain ⟨e, hee⟩ : ∃ e, e = es.getD k 0 := ⟨_, rfl⟩
      rw [← hee] at hst cel
      clear hee
      by_cases hr : 0 ≤ e ∧ e < 5
      · obtain ⟨n, rfl⟩ := Int.eq_ofNat_of_zero_le hr.1
        have h5 : n < 5 := by omega
        have EDT := edt_any n h5 a b A B ca cb i j wr ((HA.out.under HBL.out).more HBL.out.size) ((HB.out.under HBL.out).more HBL.out.size) (by omega) (by omega) (by omega) (by omega)
        by_cases hop : okP a b i j n = true
        · rw [hop] at EDT
          obtain ⟨-, hia, hjb, -, d0, d4, d44⟩ := okP_in hi hj hop
          have HS := Lib.hid (hst.trans (stp_ok (c := c) hop))
          have wc : IntKind.i64.wrap (c + dC n) = c + dC n := IntWalk.i64_in _ (by omega)
          clear hst hop hr
          go_wp2_with (first | (go_at_call 33; refine EDT.mono ?_; rintro e w' ⟨rfl, nd, rfl⟩; have HB3 := Lib.hid (bdn (n := nd) HBL.out); generalize wr.drewN nd = w4 at *))
          go_roundw
          case rel => exact ⟨i + dA n, j + dB n, k + 1, c + dC n, by omega, hia, hjb, rfl, rfl, by congr 1, by go_num, by omega, by omega, HS, HB3⟩
          case measure => simp [intOf] <;> omega
        · have hf : okP a b i j n = false := by cases h : okP a b i j n <;> simp_all
          rw [hf] at EDT
          have HR := Lib.hid (cos_bad HLN.out (hst.trans (stp_none (show okI a b i j (n : Int) = false by rw [okI_nat h5]; exact hf))))
          clear hst hop hr
          go_wp2_with (first | (go_at_call 33; refine EDT.mono ?_; rintro e w' ⟨rfl, nd, rfl⟩; have HB3 := Lib.hid (bdn (n := nd) HBL.out); generalize wr.drewN nd = w4 at *))
          refine bodyPost_ret (results_tmp2R rfl _ _ _ _ rfl rfl) rfl ?_
          rw [HR.out]
          exact ⟨rfl, HB3.out⟩
      · have EDT := edt_no e hr A B a.length b.length ca cb i j wr
        have HR := Lib.hid (cos_bad HLN.out (hst.trans (stp_none (okI_neg hr))))
        clear hst hr
        go_wp2_with (first | (go_at_call 33; refine EDT.mono ?_; rintro e w' ⟨rfl, rfl⟩))
        refine bodyPost_ret (results_tmp2R rfl _ _ _ _ rfl rfl) rfl ?_
        rw [HR.out]
        exact ⟨rfl, HBL.out⟩
    · obtain rfl : k = N := by omega
      have HR := Lib.hid (cos_end (es := es) HLN.out (by rw [HN.out]; exact Nat.le_refl _) HW.out)
      by_cases h1 : i = a.length
      · subst h1
        by_cases h2 : j = b.length
        · subst h2
          go_wp2_with fail
          refine bodyPost_ret (results_tmp2R rfl _ _ _ _ rfl rfl) rfl ?_
          rw [HR.out, if_pos (by simp)]
          exact ⟨rfl, HBL.out⟩
        · have g2 : ((j : Int) == (b.length : Int)) = false := beq_eq_false_iff_ne.2 (by omega)
          have g3 : ((j : Int) != (b.length : Int)) = true := by simp [bne, g2]
          rw [if_neg (fun h => h2 h.2)] at HR
          go_wp2_with fail
          refine bodyPost_ret (results_tmp2R rfl _ _ _ _ rfl rfl) rfl ?_
          rw [HR.out]
          exact ⟨rfl, HBL.out⟩
      · have g2 : ((i : Int) == (a.length : Int)) = false := beq_eq_false_iff_ne.2 (by omega)
        have g3 : ((i : Int) != (a.length : Int)) = true := by simp [bne, g2]
        rw [if_neg (fun h => h1 h.1)] at HR
        go_wp2_with fail
        refine bodyPost_ret (results_tmp2R rfl _ _ _ _ rfl rfl) rfl ?_
        rw [HR.out]
        exact ⟨rfl, HBL.out⟩
end Go.Proofs.YtbdiilkdajadcaaDoor
