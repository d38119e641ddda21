/-
  Stage 7: Measure: the program and the reference.
-/
import Derived.Test.YtgiodpepjajlmaaWMath
import Derived.Test.YtgiodpepjajlmaaWApp
set_option linter.unusedSimpArgs false
set_option linter.unusedVariables false
namespace Go.Proofs.Ytgiodpepjajlmaa
open Go.RowKit

theorem not_at1 {f s : List Int} {k : Nat} (h : f.getD k 0 ≤ bef f k) : ¬ okAt f s k := fun g => by have := g.1; omega
theorem not_at2 {f s : List Int} {k : Nat} (h : s.getD k 0 ≤ f.getD k 0) : ¬ okAt f s k := fun g => by have := g.2.1; omega
theorem not_at3 {f s : List Int} {k : Nat} (h : 1000000000 < s.getD k 0) : ¬ okAt f s k := fun g => by have := g.2.2; omega
theorem okT_succ {f s : List Int} {k : Nat} (h : okT f s k = true) (g : okAt f s k) : okT f s (k + 1) = true := by
  show (okT f s k && decide (okAt f s k)) = true
  rw [h, decide_eq_true g]; rfl
def timesR (f s : List Int) : Bool := decide (f.length = s.length) && okT f s f.length
theorem timesR_bad {f s : List Int} {k : Nat} (h : ¬ okAt f s k) (hk : k < f.length) : timesR f s = false := by unfold timesR; rw [okT_false h hk, Bool.and_false]

set_option maxHeartbeats 1600000 in
theorem times_any (f s : List Int) (A A2 : Option Addr) (c c2 : Nat) (w : World) (h : Row .i64 w w.heap.size A f) (h2 : Row .i64 w w.heap.size A2 s) (hl : f.length ≤ maxLen) (hl2 : s.length ≤ maxLen) :
    Calls Try.prog 40 #[.slice A f.length c, .slice A2 s.length c2] w fun e w' => e = .returned (.bool (timesR f s)) ∧ w = w' := by
  unfold maxLen at hl hl2
  have H := Lib.hid h
  have H2 := Lib.hid h2
  obtain ⟨L, hL⟩ : ∃ n, n = f.length := ⟨_, rfl⟩
  obtain ⟨M, hM⟩ : ∃ n, n = s.length := ⟨_, rfl⟩
  have HL := Lib.hid hL
  have HM := Lib.hid hM
  rw [← hL] at hl ⊢
  rw [← hM] at hl2 ⊢
  clear h h2 hL hM
  by_cases hne : L = M
  · subst hne
    have HT := Lib.hid (show timesR f s = okT f s L by unfold timesR; rw [← HL.out, ← HM.out, decide_eq_true rfl]; rfl)
    have ev : ((L : Int) != (L : Int)) = false := bne_self_eq_false _
    go_enter Try.func40, Try.ntmps40
    go_wp2_with fail
    go_loop [5, 15] (fun b i => ∃ k : Nat, k ≤ L ∧ i = .int .i64 k ∧ ∃ z : Int, b = .int .i64 z ∧ Hid (z = bef f k) ∧ Hid (okT f s k = true)) (fun _ i => L - (intOf i).toNat)
    case atStart => exact ⟨0, by omega, rfl, -1, rfl, Lib.hid rfl, Lib.hid rfl⟩
    case round =>
      obtain ⟨k, hk, rfl, z, rfl, HZ, G⟩ := hrel
      by_cases hlt : k < L
      · obtain ⟨ad, rfl, -, c1⟩ := H.out k (by rw [← HL.out]; exact hlt)
        obtain ⟨ad2, rfl, -, c3⟩ := H2.out k (by rw [← HM.out]; exact hlt)
        obtain ⟨x, hx⟩ : ∃ x, x = f.getD k 0 := ⟨_, rfl⟩
        obtain ⟨y, hy⟩ : ∃ y, y = s.getD k 0 := ⟨_, rfl⟩
        have HX := Lib.hid hx
        have HY := Lib.hid hy
        rw [← hx] at c1
        rw [← hy] at c3
        have HBAD := Lib.hid (show ¬ okAt f s k → timesR f s = false from fun g => timesR_bad g (by rw [← HL.out]; exact hlt))
        clear hx hy ev
        by_cases t1 : x ≤ z
        · have HF := Lib.hid (HBAD.out (not_at1 (by rw [← HX.out, ← HZ.out]; exact t1)))
          go_wp2_with fail
          go_ret
          exact ⟨ret_bool HF.out.symm, rfl⟩
        by_cases t2 : y ≤ x
        · have HF := Lib.hid (HBAD.out (not_at2 (by rw [← HX.out, ← HY.out]; exact t2)))
          go_wp2_with fail
          go_ret
          exact ⟨ret_bool HF.out.symm, rfl⟩
        by_cases t3 : 1000000000 < y
        · have HF := Lib.hid (HBAD.out (not_at3 (by rw [← HY.out]; exact t3)))
          go_wp2_with fail
          go_ret
          exact ⟨ret_bool HF.out.symm, rfl⟩
        · have HG := Lib.hid (okT_succ G.out (show okAt f s k from ⟨by rw [← HX.out, ← HZ.out]; omega, by rw [← HX.out, ← HY.out]; omega, by rw [← HY.out]; omega⟩))
          go_wp2_with fail
          go_round
          case rel => exact ⟨k + 1, by omega, by go_num, x, rfl, HX, HG⟩
          case measure => simp [intOf] <;> omega
      · obtain rfl : k = L := by omega
        have HE := Lib.hid (HT.out.trans G.out)
        go_wp2_with fail
        go_ret
        exact ⟨ret_bool HE.out.symm, rfl⟩
  · have HT := Lib.hid (show timesR f s = false by unfold timesR; rw [← HL.out, ← HM.out, decide_eq_false hne]; rfl)
    have ev : ((L : Int) != (M : Int)) = true := bne_iff_ne.2 (by omega)
    clear hne
    go_enter Try.func40, Try.ntmps40
    go_wp2_with fail
    go_ret
    exact ⟨ret_bool HT.out.symm, rfl⟩

theorem meaR_range {f s : List Int} {b : Int} (h : b < 1 ∨ 10000 < b) : meaR f s b = ([], 2) := by unfold meaR; rw [if_pos h]
theorem meaR_inv {f s : List Int} {b : Int} (h : ¬ (b < 1 ∨ 10000 < b)) (ht : timesR f s = false) : meaR f s b = ([], 1) := by
  unfold meaR
  rw [if_neg h, if_neg]
  rintro ⟨h1, h2⟩
  unfold timesR at ht
  rw [decide_eq_true h1, h2] at ht
  cases ht
theorem timesR_true {f s : List Int} (ht : timesR f s = true) : f.length = s.length ∧ okT f s f.length = true := by
  unfold timesR at ht
  rw [Bool.and_eq_true, decide_eq_true_iff] at ht
  exact ht
theorem meaR_big {f s : List Int} {b : Int} (h : ¬ (b < 1 ∨ 10000 < b)) (ht : timesR f s = true) (hl : 768 < f.length) : meaR f s b = ([], 3) := by
  unfold meaR
  rw [if_neg h, if_pos (timesR_true ht), if_pos hl]
theorem meaR_ok {f s : List Int} {b : Int} (h : ¬ (b < 1 ∨ 10000 < b)) (ht : timesR f s = true) (hl : ¬ 768 < f.length) : meaR f s b = (meK f s b (f.length - 1), 0) := by
  unfold meaR
  rw [if_neg h, if_pos (timesR_true ht), if_neg hl]
/-- Bounds of possible times. -/
theorem times_bd {f s : List Int} (ht : timesR f s = true) (k : Nat) (hk : k < f.length) : 0 ≤ f.getD k 0 ∧ f.getD k 0 < s.getD k 0 ∧ s.getD k 0 ≤ 1000000000 := by
  have h := (timesR_true ht).2
  have h1 := okT_true h k hk
  have h2 := bef_nn h k (by omega)
  exact ⟨by have := h1.1; omega, h1.2.1, h1.2.2⟩
theorem times_up {f s : List Int} (ht : timesR f s = true) (k : Nat) (hk : k + 1 < f.length) : f.getD k 0 < f.getD (k + 1) 0 := by
  have h1 := okT_true (timesR_true ht).2 (k + 1) hk
  exact h1.1
/-- The one step of a measurement. -/
theorem quo_pos {a b : Int} (ha : 0 ≤ a) (hb : 0 < b) : Int.tdiv a b = a / b := by
  rw [Int.tdiv_eq_ediv_of_nonneg ha]

set_option maxHeartbeats 3200000 in
theorem pmea_any (f s : List Int) (b : Int) (A A2 : Option Addr) (c c2 : Nat) (w : World) (h : Row .i64 w w.heap.size A f) (h2 : Row .i64 w w.heap.size A2 s) (hl : f.length ≤ maxLen) (hl2 : s.length ≤ maxLen) :
    Calls Try.prog 22 #[.slice A f.length c, .slice A2 s.length c2, .int .i64 b] w (PairPost (meaR f s b).1 (meaR f s b).2 w) := by
  have H := Lib.hid h
  have H2 := Lib.hid h2
  have HT := Lib.hid (times_any f s A A2 c c2 w h h2 hl hl2)
  unfold maxLen at hl hl2
  obtain ⟨L, hL⟩ : ∃ n, n = f.length := ⟨_, rfl⟩
  obtain ⟨M, hM⟩ : ∃ n, n = s.length := ⟨_, rfl⟩
  have HL := Lib.hid hL
  have HM := Lib.hid hM
  rw [← hL] at hl ⊢
  rw [← hM] at hl2 ⊢
  clear h h2 hL hM
  by_cases r1 : b < 1
  · have HP := Lib.hid (meaR_range (f := f) (s := s) (Or.inl r1))
    go_enter Try.func22, Try.ntmps22
    go_wp2_with fail
    go_ret2
    exact PairPost.of HP.out Own.nil (Below.refl _ _)
  by_cases r2 : 10000 < b
  · have HP := Lib.hid (meaR_range (f := f) (s := s) (Or.inr r2))
    go_enter Try.func22, Try.ntmps22
    go_wp2_with fail
    go_ret2
    exact PairPost.of HP.out Own.nil (Below.refl _ _)
  have HR := Lib.hid (show ¬ (b < 1 ∨ 10000 < b) by omega)
  go_enter Try.func22, Try.ntmps22
  go_wp2_with fail
  refine (show Calls _ _ _ _ _ from by have := HT.out; rw [← HL.out, ← HM.out] at this; exact this).mono ?_
  rintro e w' ⟨rfl, rfl⟩
  cases ht : timesR f s with
  | false =>
    have HP := Lib.hid (meaR_inv HR.out ht)
    clear ht
    go_wp2_with fail
    go_ret2
    exact PairPost.of HP.out Own.nil (Below.refl _ _)
  | true =>
    have HTT := Lib.hid ht
    clear ht
    by_cases hbig : 768 < L
    · have HP := Lib.hid (meaR_big HR.out HTT.out (by rw [← HL.out]; exact hbig))
      have hb : (768 : Int) < (L : Int) := by omega
      clear hbig
      go_wp2_with fail
      go_ret2
      exact PairPost.of HP.out Own.nil (Below.refl _ _)
    · have HP := Lib.hid (meaR_ok HR.out HTT.out (by rw [← HL.out]; exact hbig))
      go_wp2_with fail
      go_loopw [8, 9] (fun v i wr => ∃ j : Nat, (j = 0 ∨ j + 1 ≤ L) ∧ i = .int .i64 ((j : Int) + 1) ∧ Hid (Own .i64 3 wr w.heap.size v (meK f s b j)) ∧ Hid (Below w.heap.size w wr)) (fun _ i _ => L - (intOf i).toNat)
      case atStart => exact ⟨0, Or.inl rfl, rfl, Lib.hid Own.nil, Lib.hid (Below.refl _ _)⟩
      case round =>
        obtain ⟨j, hj, rfl, O, B⟩ := hrel
        have HJ := Lib.hid hj
        by_cases hlj : j + 1 < L
        · have HW := Lib.hid (H.out.under B.out)
          have HW2 := Lib.hid (H2.out.under B.out)
          obtain ⟨a1, rfl, -, c1⟩ := HW.out j (by rw [← HL.out]; omega)
          obtain ⟨a2, e2, -, c3⟩ := HW.out (j + 1) (by rw [← HL.out]; omega)
          injection e2 with e2
          subst e2
          have hml : L = M := by have := (timesR_true HTT.out).1; rw [← HL.out, ← HM.out] at this; exact this
          obtain ⟨a3, rfl, -, c4⟩ := HW2.out j (by rw [← HM.out]; omega)
          have b1 := times_bd HTT.out j (by rw [← HL.out]; omega)
          have b2 := times_bd HTT.out (j + 1) (by rw [← HL.out]; omega)
          have b3 := times_up HTT.out j (by rw [← HL.out]; omega)
          obtain ⟨x0, hx0⟩ : ∃ x, x = f.getD j 0 := ⟨_, rfl⟩
          obtain ⟨x1, hx1⟩ : ∃ x, x = f.getD (j + 1) 0 := ⟨_, rfl⟩
          obtain ⟨y0, hy0⟩ : ∃ x, x = s.getD j 0 := ⟨_, rfl⟩
          have HS := Lib.hid (show meK f s b (j + 1) = meK f s b j ++ [(x1 - x0) * b / (y0 - x0)] by rw [hx0, hx1, hy0]; rfl)
          rw [← hx0] at c1 b1 b3
          rw [← hx1] at c3 b3 b2
          rw [← hy0] at c4 b1
          have HLEN := Lib.hid (show (meK f s b j).length + 1 ≤ 1000000000 by rw [meK_len]; omega)
          have HSB := Lib.hid B.out.size
          obtain ⟨b11, b12, b13⟩ := b1
          obtain ⟨b21, b22, b23⟩ := b2
          have hlj' : (j : Int) + 1 < (L : Int) := by omega
          have hlm' : (j : Int) < (M : Int) := by omega
          have j0 : (0 : Int) ≤ (j : Int) := by omega
          have j2 : (0 : Int) ≤ (j : Int) + 1 := by omega
          have jw : IntKind.i64.wrap (j : Int) = (j : Int) := IntWalk.i64_in _ (by omega)
          have m1 : 0 ≤ (x1 - x0) * b := Int.mul_nonneg (by omega) (by omega)
          have m2 : (x1 - x0) * b ≤ 1000000000 * 10000 := Int.mul_le_mul (by omega) (by omega) (by omega) (by omega)
          have w1 : IntKind.i64.wrap (x1 - x0) = x1 - x0 := IntWalk.i64_in _ (by omega)
          have w2 : IntKind.i64.wrap ((x1 - x0) * b) = (x1 - x0) * b := IntWalk.i64_in _ (by omega)
          have w3 : IntKind.i64.wrap (y0 - x0) = y0 - x0 := IntWalk.i64_in _ (by omega)
          have m3 := quo_pos m1 (show 0 < y0 - x0 by omega)
          have m4 : 0 ≤ (x1 - x0) * b / (y0 - x0) := Int.ediv_nonneg m1 (by omega)
          have m5 : (x1 - x0) * b / (y0 - x0) ≤ (x1 - x0) * b := Int.ediv_le_self _ m1
          have w4 : IntKind.i64.wrap ((x1 - x0) * b / (y0 - x0)) = (x1 - x0) * b / (y0 - x0) := IntWalk.i64_in _ (by omega)
          have d0 : ¬ (y0 - x0 = 0) := by omega
          rw [add_sc] at c3
          clear hx0 hx1 hy0 hj hml
          go_upto_region 12 with fail
          go_region_law (refine step_appI _ rfl (.tmp 38) (.tmp 55) rfl w.heap.size _ (meK f s b j) rfl (O.out.alloc _) ((x1 - x0) * b / (y0 - x0)) wr.drew rfl _ rfl 1 rfl HLEN.out (le_allocW (w := wr) HSB.out) ?_; intro v5 w5 A5)
          all_goals
            have B2 := Lib.hid (AppI.belowN (n := 1) A5 B.out HSB.out O.out)
            have O2 := Lib.hid A5.1
            clear A5 O B HSB c1 c3 c4 m1 m2 m3 m4 m5 w1 w2 w3 w4 HW HW2
            go_wp2_with fail
            go_roundw
            case rel => exact ⟨j + 1, Or.inr (by omega), by go_num, Lib.hid (by rw [HS.out]; exact O2.out), B2⟩
            case measure => simp [intOf] <;> omega
        · have HE := Lib.hid (show meK f s b j = meK f s b (f.length - 1) by
            rw [← HL.out]
            rcases HJ.out with h | h
            · subst h; rw [show L - 1 = 0 by omega]
            · rw [show L - 1 = j by omega])
          rw [HE.out] at O
          have hlj' : ¬ (j : Int) + 1 < (L : Int) := by omega
          clear hj hlj
          go_wp2_with fail
          go_ret2
          exact PairPost.of HP.out O.out B.out

theorem okAt_iff {f s : List Int} {k : Nat} (hp : okT f s k = true) : okAt f s k ↔ ¬ (f.getD k 0 < 0 ∨ 1000000000 < f.getD k 0 ∨ 1000000000 < s.getD k 0 ∨ s.getD k 0 ≤ f.getD k 0 ∨ (0 < k ∧ f.getD k 0 ≤ f.getD (k - 1) 0)) := by
  have hb := bef_nn hp k (Nat.le_refl _)
  unfold okAt
  cases k with
  | zero =>
    show -1 < _ ∧ _ ↔ _
    omega
  | succ k =>
    have e : k + 1 - 1 = k := by omega
    rw [e]
    show f.getD k 0 < _ ∧ _ ↔ _
    have hb' : -1 ≤ f.getD k 0 := hb
    have h1 := (okT_true hp k (by omega)).1
    have h2 := bef_nn hp k (by omega)
    omega
set_option maxHeartbeats 6400000 in
theorem rmea_any (f s : List Int) (b : Int) (A A2 : Option Addr) (c c2 : Nat) (w : World) (h : Row .i64 w w.heap.size A f) (h2 : Row .i64 w w.heap.size A2 s) (hl : f.length ≤ maxLen) (hl2 : s.length ≤ maxLen) :
    Calls Try.prog 23 #[.slice A f.length c, .slice A2 s.length c2, .int .i64 b] w (PairPost (meaR f s b).1 (meaR f s b).2 w) := by
  have H := Lib.hid h
  have H2 := Lib.hid h2
  unfold maxLen at hl hl2
  obtain ⟨L, hL⟩ : ∃ n, n = f.length := ⟨_, rfl⟩
  obtain ⟨M, hM⟩ : ∃ n, n = s.length := ⟨_, rfl⟩
  have HL := Lib.hid hL
  have HM := Lib.hid hM
  rw [← hL] at hl ⊢
  rw [← hM] at hl2 ⊢
  clear h h2 hL hM
  by_cases r1 : b < 1
  · have HP := Lib.hid (meaR_range (f := f) (s := s) (Or.inl r1))
    go_enter Try.func23, Try.ntmps23
    go_wp2_with fail
    go_ret2
    exact PairPost.of HP.out Own.nil (Below.refl _ _)
  by_cases r2 : 10000 < b
  · have HP := Lib.hid (meaR_range (f := f) (s := s) (Or.inr r2))
    go_enter Try.func23, Try.ntmps23
    go_wp2_with fail
    go_ret2
    exact PairPost.of HP.out Own.nil (Below.refl _ _)
  have HR := Lib.hid (show ¬ (b < 1 ∨ 10000 < b) by omega)
  by_cases hne : L = M
  · subst hne
    have HTT := Lib.hid (show timesR f s = okT f s L by unfold timesR; rw [← HL.out, ← HM.out, decide_eq_true rfl]; rfl)
    have ev : ((L : Int) != (L : Int)) = false := bne_self_eq_false _
    go_enter Try.func23, Try.ntmps23
    go_wp2_with fail
    go_loopw [8] (fun i wr => ∃ k : Nat, k ≤ L ∧ i = .int .i64 k ∧ Hid (okT f s k = true) ∧ Hid (∃ n, wr = w.drewN n)) (fun i _ => L - (intOf i).toNat)
    case atStart => exact ⟨0, by omega, rfl, Lib.hid rfl, Lib.hid ⟨0, rfl⟩⟩
    case round =>
      obtain ⟨k, hk, rfl, G, W⟩ := hrel
      have HB := Lib.hid (show Below w.heap.size w wr from by obtain ⟨n, rfl⟩ := W.out; exact bdn (Below.refl _ _))
      have HW := Lib.hid (H.out.under HB.out)
      have HW2 := Lib.hid (H2.out.under HB.out)
      by_cases hlt : k < L
      · obtain ⟨ad, rfl, -, c1⟩ := HW.out k (by rw [← HL.out]; exact hlt)
        obtain ⟨ad2, rfl, -, c3⟩ := HW2.out k (by rw [← HM.out]; exact hlt)
        have hiff := okAt_iff G.out
        obtain ⟨x, hx⟩ : ∃ x, x = f.getD k 0 := ⟨_, rfl⟩
        obtain ⟨y, hy⟩ : ∃ y, y = s.getD k 0 := ⟨_, rfl⟩
        have HX := Lib.hid hx
        rw [← hx, ← hy] at hiff
        rw [← hx] at c1
        rw [← hy] at c3
        have HI := Lib.hid hiff
        have HBAD := Lib.hid (show ¬ okAt f s k → meaR f s b = ([], 1) from fun g => meaR_inv HR.out (timesR_bad g (by rw [← HL.out]; exact hlt)))
        have HWR := Lib.hid (fun n : Nat => show ∃ m, wr.drewN n = w.drewN m from by obtain ⟨m, rfl⟩ := W.out; exact ⟨m + n, by rw [World.drewN_drewN]⟩)
        clear hx hy ev hiff W
        by_cases t1 : x < 0
        · have HF := Lib.hid (HBAD.out (fun g => (HI.out.1 g) (by omega)))
          have d1 : decide (x < 0) = true := decide_eq_true t1
          go_upto_region 8 with fail
          go_quiet (fail)
          go_wp2_with fail
          go_ret2
          exact PairPost.of HF.out Own.nil (bdn HB.out)
        have d1 : decide (x < 0) = false := decide_eq_false t1
        by_cases t2 : 1000000000 < x
        · have HF := Lib.hid (HBAD.out (fun g => (HI.out.1 g) (by omega)))
          have d2 : decide (1000000000 < x) = true := decide_eq_true t2
          go_upto_region 8 with fail
          go_quiet (fail)
          go_wp2_with fail
          go_ret2
          exact PairPost.of HF.out Own.nil (bdn HB.out)
        have d2 : decide (1000000000 < x) = false := decide_eq_false t2
        by_cases t3 : 1000000000 < y
        · have HF := Lib.hid (HBAD.out (fun g => (HI.out.1 g) (by omega)))
          have d3 : decide (1000000000 < y) = true := decide_eq_true t3
          go_upto_region 8 with fail
          go_quiet (fail)
          go_wp2_with fail
          go_ret2
          exact PairPost.of HF.out Own.nil (bdn HB.out)
        have d3 : decide (1000000000 < y) = false := decide_eq_false t3
        by_cases t4 : y ≤ x
        · have HF := Lib.hid (HBAD.out (fun g => (HI.out.1 g) (by omega)))
          have d4 : decide (y ≤ x) = true := decide_eq_true t4
          go_upto_region 8 with fail
          go_quiet (fail)
          go_wp2_with fail
          go_ret2
          exact PairPost.of HF.out Own.nil (bdn HB.out)
        have d4 : decide (y ≤ x) = false := decide_eq_false t4
        cases k with
        | zero =>
          have HG := Lib.hid (okT_succ G.out (HI.out.2 (by omega)))
          have c1' : wr.cell? ad = some (.int .i64 x) := c1
          have c3' : wr.cell? ad2 = some (.int .i64 y) := c3
          have e0 : ((0 : Nat) : Int) = 0 := rfl
          have hL0 : (0 : Int) < (L : Int) := by omega
          rw [e0]
          go_upto_region 8 with fail
          go_quiet (fail)
          go_wp2_with fail
          go_roundw
          case rel => exact ⟨1, by omega, by go_num, HG, Lib.hid (HWR.out nq)⟩
          case measure => simp [intOf] <;> omega
        | succ k =>
          obtain ⟨ad', e2, -, c0⟩ := HW.out k (by rw [← HL.out]; omega)
          injection e2 with e2
          subst e2
          obtain ⟨z, hz⟩ : ∃ z, z = f.getD k 0 := ⟨_, rfl⟩
          have HZ := Lib.hid hz
          rw [← hz] at c0
          rw [add_sc] at c1 c3
          have jw : IntKind.i64.wrap (k : Int) = (k : Int) := IntWalk.i64_in _ (by omega)
          have j0 : (0 : Int) ≤ (k : Int) := by omega
          have j1 : (0 : Int) ≤ (k : Int) + 1 := by omega
          have j2 : (k : Int) + 1 < (L : Int) := by omega
          have j3 : (k : Int) < (L : Int) := by omega
          have d5 : decide ((0 : Int) < (k : Int) + 1) = true := decide_eq_true (by omega)
          have ek : ((k + 1 : Nat) : Int) = (k : Int) + 1 := rfl
          rw [ek]
          clear hz
          by_cases t6 : x ≤ z
          · have HF := Lib.hid (HBAD.out (fun g => (HI.out.1 g) (by rw [show k + 1 - 1 = k by omega, ← HZ.out]; omega)))
            have d6 : decide (x ≤ z) = true := decide_eq_true t6
            go_upto_region 8 with fail
            go_quiet (fail)
            go_wp2_with fail
            go_ret2
            exact PairPost.of HF.out Own.nil (bdn HB.out)
          · have d6 : decide (x ≤ z) = false := decide_eq_false t6
            have HG := Lib.hid (okT_succ G.out (HI.out.2 (by rw [show k + 1 - 1 = k by omega, ← HZ.out]; omega)))
            go_upto_region 8 with fail
            go_quiet (fail)
            go_wp2_with fail
            go_roundw
            case rel => exact ⟨k + 1 + 1, by omega, by go_num, HG, Lib.hid (HWR.out nq)⟩
            case measure => simp [intOf] <;> omega
      · obtain rfl : k = L := by omega
        have HTU := Lib.hid (HTT.out.trans G.out)
        clear HTT
        have HB0 := HB
        clear HB0 ev
        by_cases hbig : 768 < k
        · have HP := Lib.hid (meaR_big HR.out HTU.out (by rw [← HL.out]; exact hbig))
          have hb : (768 : Int) < (k : Int) := by omega
          clear hbig
          go_wp2_with fail
          go_ret2
          exact PairPost.of HP.out Own.nil HB.out
        · have HP := Lib.hid (meaR_ok HR.out HTU.out (by rw [← HL.out]; exact hbig))
          have hb : ¬ (768 : Int) < (k : Int) := by omega
          obtain ⟨L, hLL⟩ : ∃ L, L = k := ⟨_, rfl⟩
          subst hLL
          generalize wr = wo at *
          clear hlt hbig hk
          go_wp2_with fail
          go_loopw [9, 10] (fun v i wr => ∃ j : Nat, (j = 0 ∨ j + 1 ≤ L) ∧ i = .int .i64 (j : Int) ∧ Hid (Own .i64 3 wr w.heap.size v (meK f s b j)) ∧ Hid (Below w.heap.size w wr)) (fun _ i _ => L - (intOf i).toNat)
          case atStart => exact ⟨0, Or.inl rfl, rfl, Lib.hid Own.nil, HB⟩
          case round =>
            clear HB HW HW2
            obtain ⟨j, hj, rfl, O, B⟩ := hrel
            have HJ := Lib.hid hj
            have hjb : (j : Int) ≤ 1000 := by omega
            have jw1 : IntKind.i64.wrap ((j : Int) + 1) = (j : Int) + 1 := IntWalk.i64_in _ (by omega)
            by_cases hlj : j + 1 < L
            · have HW := Lib.hid (H.out.under B.out)
              have HW2 := Lib.hid (H2.out.under B.out)
              obtain ⟨a1, rfl, -, c1⟩ := HW.out j (by rw [← HL.out]; omega)
              obtain ⟨a2, e2, -, c3⟩ := HW.out (j + 1) (by rw [← HL.out]; omega)
              injection e2 with e2
              subst e2
              obtain ⟨a3, rfl, -, c4⟩ := HW2.out j (by rw [← HM.out]; omega)
              have b1 := times_bd HTU.out j (by rw [← HL.out]; omega)
              have b2 := times_bd HTU.out (j + 1) (by rw [← HL.out]; omega)
              have b3 := times_up HTU.out j (by rw [← HL.out]; omega)
              obtain ⟨x0, hx0⟩ : ∃ x, x = f.getD j 0 := ⟨_, rfl⟩
              obtain ⟨x1, hx1⟩ : ∃ x, x = f.getD (j + 1) 0 := ⟨_, rfl⟩
              obtain ⟨y0, hy0⟩ : ∃ x, x = s.getD j 0 := ⟨_, rfl⟩
              have HS := Lib.hid (show meK f s b (j + 1) = meK f s b j ++ [(x1 - x0) * b / (y0 - x0)] by rw [hx0, hx1, hy0]; rfl)
              rw [← hx0] at c1 b1 b3
              rw [← hx1] at c3 b3 b2
              rw [← hy0] at c4 b1
              have HLEN := Lib.hid (show (meK f s b j).length + 1 ≤ 1000000000 by rw [meK_len]; omega)
              have HSB := Lib.hid B.out.size
              obtain ⟨b11, b12, b13⟩ := b1
              obtain ⟨b21, b22, b23⟩ := b2
              have hlj' : (j : Int) + 1 < (L : Int) := by omega
              have hlm' : (j : Int) < (L : Int) := by omega
              have j0 : (0 : Int) ≤ (j : Int) := by omega
              have j2 : (0 : Int) ≤ (j : Int) + 1 := by omega
              have jw : IntKind.i64.wrap (j : Int) = (j : Int) := IntWalk.i64_in _ (by omega)
              have m1 : 0 ≤ (x1 - x0) * b := Int.mul_nonneg (by omega) (by omega)
              have m2 : (x1 - x0) * b ≤ 1000000000 * 10000 := Int.mul_le_mul (by omega) (by omega) (by omega) (by omega)
              have w1 : IntKind.i64.wrap (x1 - x0) = x1 - x0 := IntWalk.i64_in _ (by omega)
              have w2 : IntKind.i64.wrap ((x1 - x0) * b) = (x1 - x0) * b := IntWalk.i64_in _ (by omega)
              have w3 : IntKind.i64.wrap (y0 - x0) = y0 - x0 := IntWalk.i64_in _ (by omega)
              have m3 := quo_pos m1 (show 0 < y0 - x0 by omega)
              have m4 : 0 ≤ (x1 - x0) * b / (y0 - x0) := Int.ediv_nonneg m1 (by omega)
              have m5 : (x1 - x0) * b / (y0 - x0) ≤ (x1 - x0) * b := Int.ediv_le_self _ m1
              have w4 : IntKind.i64.wrap ((x1 - x0) * b / (y0 - x0)) = (x1 - x0) * b / (y0 - x0) := IntWalk.i64_in _ (by omega)
              have d0 : ¬ (y0 - x0 = 0) := by omega
              rw [add_sc] at c3
              clear hx0 hx1 hy0 hj
              go_upto_region 16 with fail
              go_region_law (refine step_appI _ rfl (.tmp 84) (.tmp 107) rfl w.heap.size _ (meK f s b j) rfl (O.out.alloc _) ((x1 - x0) * b / (y0 - x0)) wr.drew rfl _ rfl 1 rfl HLEN.out (le_allocW (w := wr) HSB.out) ?_; intro v5 w5 A5)
              all_goals
                have B2 := Lib.hid (AppI.belowN (n := 1) A5 B.out HSB.out O.out)
                have O2 := Lib.hid A5.1
                clear A5 O B HSB c1 c3 c4 m1 m2 m3 m4 m5 w1 w2 w3 w4 HW HW2
                go_wp2_with fail
                go_roundw
                case rel => exact ⟨j + 1, Or.inr (by omega), by go_num, Lib.hid (by rw [HS.out]; exact O2.out), B2⟩
                case measure => simp [intOf] <;> omega
            · have HE := Lib.hid (show meK f s b j = meK f s b (f.length - 1) by
                rw [← HL.out]
                rcases HJ.out with h | h
                · subst h; rw [show L - 1 = 0 by omega]
                · rw [show L - 1 = j by omega])
              rw [HE.out] at O
              have hlj' : ¬ (j : Int) + 1 < (L : Int) := by omega
              clear hj hlj
              go_wp2_with fail
              go_ret2
              exact PairPost.of HP.out O.out B.out
  · have HT := Lib.hid (show meaR f s b = ([], 1) from meaR_inv HR.out (by unfold timesR; rw [← HL.out, ← HM.out, decide_eq_false hne]; rfl))
    have ev : ((L : Int) != (M : Int)) = true := bne_iff_ne.2 (by omega)
    clear hne
    go_enter Try.func23, Try.ntmps23
    go_wp2_with fail
    go_ret2
    exact PairPost.of HT.out Own.nil (Below.refl _ _)
end Go.Proofs.Ytgiodpepjajlmaa
