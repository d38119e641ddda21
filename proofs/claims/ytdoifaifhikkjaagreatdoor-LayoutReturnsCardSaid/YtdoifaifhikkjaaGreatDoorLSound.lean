/-
  Stage 9: what is sound in an element (the program).
-/
import Derived.Test.YtdoifaifhikkjaaGreatDoorLName
set_option linter.unusedSimpArgs false
set_option linter.unusedVariables false
namespace Go.Proofs.YtdoifaifhikkjaaGreatDoor
open Go.RowKit

theorem beh_mk {x : El} {b : Bool} (hn : nameS x.name = true) (h : b = decide (rngE x)) : Value.bool b = .bool (behE x) := by
  unfold behE; rw [hn, h]; rfl
set_option maxHeartbeats 1600000 in
theorem beh_any (x : El) (w : World) (hs : x.name.size ≤ maxLen) :
    Calls Tryz.prog 37 #[aggE x] w fun e w' => e = .returned (.bool (behE x)) ∧ Below w.heap.size w w' := by
  obtain ⟨k, nm, pa, si, le, gr, cu, po⟩ := x
  have hcon := pname_any nm (w.alloc (.cells #[.int .i64 k, .string nm, .int .i64 pa, .int .i64 si, .int .i64 le, .int .i64 gr, .int .i64 cu, .int .i64 po] 39)) hs
  have HX := Lib.hid (newE w ⟨k, nm, pa, si, le, gr, cu, po⟩ 39 w.heap.size rfl)
  obtain ⟨b, hb⟩ : ∃ b, b = nameS nm := ⟨_, rfl⟩
  rw [← hb] at hcon
  have HB := Lib.hid hb
  clear hs hb
  go_enter Tryz.func37, Tryz.ntmps37
  go_wp2_with fail
  refine hcon.mono ?_
  rintro e w1 ⟨rfl, B1⟩
  obtain ⟨c0, c1, c2, c3, c4, c5, c6, c7, lt⟩ := EBlk.of (HX.out.below B1)
  simp only at c0 c1 c2 c3 c4 c5 c6 c7
  have BB := Lib.hid (below1 B1)
  clear hcon B1
  cases b with
  | false =>
    clear c0 c1 c2 c3 c4 c5 c6 c7
    go_wp2_with fail
    go_ret
    exact ⟨ret_bool (by unfold behE; rw [← HB.out]; rfl), BB.out⟩
  | true =>
    clear c0 c1 c2 c7
    go_wp2_with fail
    all_goals
      go_ret
      exact ⟨congrArg Ending.returned (beh_mk HB.out.symm (by symm; unfold rngE; simp only; first | exact decide_eq_true (by omega) | exact decide_eq_false (by omega) | exact decide_eq_decide.2 (by omega))), BB.out⟩
theorem sound_ret {x : El} {b : Bool} (h : b = soundE x) : Ending.returned (Value.bool b) = .returned (.bool (soundE x)) := by rw [h]
set_option maxHeartbeats 1600000 in
theorem sound_any (x : El) (w : World) (hs : x.name.size ≤ maxLen) :
    Calls Tryz.prog 22 #[aggE x] w fun e w' => e = .returned (.bool (soundE x)) ∧ Below w.heap.size w w' := by
  obtain ⟨k, nm, pa, si, le, gr, cu, po⟩ := x
  have HX := Lib.hid (newE w ⟨k, nm, pa, si, le, gr, cu, po⟩ 39 w.heap.size rfl)
  have bel : Below w.heap.size w (w.alloc (.cells #[.int .i64 k, .string nm, .int .i64 pa, .int .i64 si, .int .i64 le, .int .i64 gr, .int .i64 cu, .int .i64 po] 39)) := (Below.refl _ _).alloc (Nat.le_refl _) _
  have BW := Lib.hid bel
  clear bel
  by_cases h0 : k = 0
  · subst h0
    have hcon := pname_any nm (w.alloc (.cells #[.int .i64 0, .string nm, .int .i64 pa, .int .i64 si, .int .i64 le, .int .i64 gr, .int .i64 cu, .int .i64 po] 39)) hs
    obtain ⟨b, hb⟩ : ∃ b, b = nameS nm := ⟨_, rfl⟩
    rw [← hb] at hcon
    have HB := Lib.hid hb
    clear hs hb
    go_enter Tryz.func22, Tryz.ntmps22
    go_wp2_with fail
    refine hcon.mono ?_
    rintro e w1 ⟨rfl, B1⟩
    obtain ⟨c0, c1, c2, c3, c4, c5, c6, c7, lt⟩ := EBlk.of (HX.out.below B1)
    simp only at c0 c1 c2 c3 c4 c5 c6 c7
    have BB := Lib.hid (below1 B1)
    clear hcon B1
    cases b with
    | false =>
      clear c0 c1 c2 c3 c4 c5 c6 c7
      go_wp2_with fail
      go_ret
      exact ⟨sound_ret (by unfold soundE; rw [if_pos rfl, ← HB.out]; rfl), BB.out⟩
    | true =>
      go_wp2_with fail
      all_goals
        go_ret
        exact ⟨sound_ret (by unfold soundE; rw [if_pos rfl, ← HB.out, Bool.true_and]; symm; simp only; first | exact decide_eq_true (by omega) | exact decide_eq_false (by omega) | exact decide_eq_decide.2 (by omega)), BB.out⟩
  · have hk : (k == 0) = false := beq_eq_false_iff_ne.2 h0
    have hcon := beh_any ⟨k, nm, pa, si, le, gr, cu, po⟩ (w.alloc (.cells #[.int .i64 k, .string nm, .int .i64 pa, .int .i64 si, .int .i64 le, .int .i64 gr, .int .i64 cu, .int .i64 po] 39)) hs
    obtain ⟨b, hb⟩ : ∃ b, b = behE ⟨k, nm, pa, si, le, gr, cu, po⟩ := ⟨_, rfl⟩
    rw [← hb] at hcon
    have HB := Lib.hid hb
    have H0 := Lib.hid h0
    clear hs hb
    by_cases h2 : k = 2
    · have hk2 : (k == 2) = true := beq_iff_eq.2 h2
      have H2 := Lib.hid h2
      clear h0 h2
      go_enter Tryz.func22, Tryz.ntmps22
      go_wp2_with fail
      refine hcon.mono ?_
      rintro e w1 ⟨rfl, B1⟩
      have c7 := (EBlk.of (HX.out.below B1)).c7
      simp only at c7
      have BB := Lib.hid (below1 B1)
      clear hcon B1
      cases b with
      | false =>
        clear c7
        go_wp2_with fail
        go_ret
        exact ⟨sound_ret (by unfold soundE; rw [if_neg H0.out, if_pos H2.out, ← HB.out]; rfl), BB.out⟩
      | true =>
        go_wp2_with fail
        all_goals
          go_ret
          exact ⟨sound_ret (by unfold soundE; rw [if_neg H0.out, if_pos H2.out, ← HB.out, Bool.true_and]; symm; simp only; first | exact decide_eq_true (by omega) | exact decide_eq_false (by omega) | exact decide_eq_decide.2 (by omega)), BB.out⟩
    · have hk2 : (k == 2) = false := beq_eq_false_iff_ne.2 h2
      have H2 := Lib.hid h2
      by_cases h3 : k = 1 ∨ k = 3 ∨ k = 4
      · have H3 := Lib.hid h3
        have tail : ∀ (b : Bool) (w1 : World), b = behE ⟨k, nm, pa, si, le, gr, cu, po⟩ → soundE ⟨k, nm, pa, si, le, gr, cu, po⟩ = (b && decide (po = 0)) := fun b _ h => by unfold soundE; rw [if_neg H0.out, if_neg H2.out, if_pos H3.out, ← h]
        have HT := Lib.hid tail
        clear tail
        have hd : k = 1 ∨ (k ≠ 1 ∧ k = 3) ∨ (k ≠ 1 ∧ k ≠ 3 ∧ k = 4) := by omega
        clear h0 h2 h3
        rcases hd with h1 | ⟨n1, h1⟩ | ⟨n1, n3, h1⟩
        all_goals
          first
          | (have e1 : (k == 1) = true := beq_iff_eq.2 h1)
          | (have e3 : (k == 3) = true := beq_iff_eq.2 h1
             have e1 : (k == 1) = false := beq_eq_false_iff_ne.2 n1)
          | (have e4 : (k == 4) = true := beq_iff_eq.2 h1
             have e1 : (k == 1) = false := beq_eq_false_iff_ne.2 n1
             have e3 : (k == 3) = false := beq_eq_false_iff_ne.2 n3)
          clear h1
          go_enter Tryz.func22, Tryz.ntmps22
          go_wp2_with fail
          refine hcon.mono ?_
          rintro e w1 ⟨rfl, B1⟩
          have c7 := (EBlk.of (HX.out.below B1)).c7
          simp only at c7
          have BB := Lib.hid (below1 B1)
          clear hcon B1
          cases b with
          | false =>
            clear c7
            go_wp2_with fail
            go_ret
            exact ⟨sound_ret (HT.out _ w1 HB.out).symm, BB.out⟩
          | true =>
            go_wp2_with fail
            go_ret
            exact ⟨sound_ret (by rw [HT.out _ w1 HB.out, Bool.true_and]; first | rfl | (by_cases hp : po = 0 <;> simp [hp])), BB.out⟩
      · have e1 : (k == 1) = false := beq_eq_false_iff_ne.2 (by omega)
        have e3 : (k == 3) = false := beq_eq_false_iff_ne.2 (by omega)
        have e4 : (k == 4) = false := beq_eq_false_iff_ne.2 (by omega)
        have HF := Lib.hid (show soundE ⟨k, nm, pa, si, le, gr, cu, po⟩ = false by unfold soundE; rw [if_neg h0, if_neg h2, if_neg h3])
        clear h0 h2 h3 hcon
        go_enter Tryz.func22, Tryz.ntmps22
        go_wp2_with fail
        go_ret
        exact ⟨sound_ret HF.out.symm, BW.out⟩
end Go.Proofs.YtdoifaifhikkjaaGreatDoor
