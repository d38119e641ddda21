/-
  Stage 7: the program's validPatterns.
-/
import Derived.Test.YtgiodpepjajlmaaWDiv
set_option linter.unusedSimpArgs false
set_option linter.unusedVariables false
namespace Go.Proofs.Ytgiodpepjajlmaa
open Go.RowKit

theorem okD_snoc (l : List Int) (k : Nat) (h : k < l.length) : okD (l.take (k + 1)) = (okD (l.take k) && decide (1 ≤ l.getD k 0 ∧ l.getD k 0 ≤ 10000)) := by
  unfold okD
  rw [List.take_succ_eq_append_getElem h, List.all_append, List.getD_eq_getElem?_getD, List.getElem?_eq_getElem h]
  simp
theorem okD_part {l : List Int} {k : Nat} (h : okD (l.take k) = false) : okD l = false := by
  have : okD l = (okD (l.take k) && okD (l.drop k)) := by unfold okD; rw [← List.all_append, List.take_append_drop]
  rw [this, h]; rfl
theorem okD_mem {l : List Int} (h : okD l = true) : ∀ z ∈ l, 1 ≤ z ∧ z ≤ 10000 := fun z hz => by
  unfold okD at h
  exact of_decide_eq_true (List.all_eq_true.1 h z hz)
set_option maxHeartbeats 1600000 in
theorem are_any (l : List Int) (A : Option Addr) (c : Nat) (w : World) (h : Row .i64 w w.heap.size A l) (hl : l.length ≤ maxLen) :
    Calls Try.prog 42 #[.slice A l.length c] w fun e w' => e = .returned (.bool (okD l)) ∧ w = w' := by
  unfold maxLen at hl
  have H := Lib.hid h
  obtain ⟨L, hL⟩ : ∃ n, n = l.length := ⟨_, rfl⟩
  have HL := Lib.hid hL
  rw [← hL] at hl ⊢
  clear h hL
  go_enter Try.func42, Try.ntmps42
  go_wp2_with fail
  go_loop [7] (fun i => ∃ k : Nat, k ≤ L ∧ i = .int .i64 k ∧ Hid (okD (l.take k) = true)) (fun i => L - (intOf i).toNat)
  case atStart => exact ⟨0, by omega, rfl, Lib.hid rfl⟩
  case round =>
    obtain ⟨k, hk, rfl, G⟩ := hrel
    by_cases hlt : k < L
    · obtain ⟨ad, rfl, -, c1⟩ := H.out k (by rw [← HL.out]; exact hlt)
      have hs := okD_snoc l k (by rw [← HL.out]; exact hlt)
      obtain ⟨x, hx⟩ : ∃ x, x = l.getD k 0 := ⟨_, rfl⟩
      rw [← hx] at c1 hs
      have HS := Lib.hid hs
      clear hx hs
      by_cases t1 : x < 1
      · have HF := Lib.hid (show okD l = false from okD_part (k := k + 1) (by rw [HS.out, decide_eq_false (by omega), Bool.and_false]))
        go_wp2_with fail
        go_ret
        exact ⟨ret_bool HF.out.symm, rfl⟩
      by_cases t2 : 10000 < x
      · have HF := Lib.hid (show okD l = false from okD_part (k := k + 1) (by rw [HS.out, decide_eq_false (by omega), Bool.and_false]))
        go_wp2_with fail
        go_ret
        exact ⟨ret_bool HF.out.symm, rfl⟩
      · have HF := Lib.hid (show okD (l.take (k + 1)) = true by rw [HS.out, G.out, decide_eq_true (by omega)]; rfl)
        go_wp2_with fail
        go_round
        case rel => exact ⟨k + 1, by omega, by go_num, HF⟩
        case measure => simp [intOf] <;> omega
    · obtain rfl : k = L := by omega
      have HF := Lib.hid (show okD l = true by have := G.out; rwa [HL.out, List.take_length] at this)
      go_wp2_with fail
      go_ret
      exact ⟨ret_bool HF.out.symm, rfl⟩

/-- Is everything within its range, up to pattern k? -/
def rngK (d : List Int) (ps : List (List Int)) (tol : Int) (k : Nat) : Bool := okD d && decide (0 ≤ tol ∧ tol ≤ 10000) && (ps.take k).all okD
def lngK (ps : List (List Int)) (k : Nat) : Bool := (ps.take k).any fun p => decide (5 < p.length)
theorem rngK_snoc {d : List Int} {ps : List (List Int)} {tol : Int} {k : Nat} (h : k < ps.length) : rngK d ps tol (k + 1) = (rngK d ps tol k && okD (ps.getD k [])) := by
  unfold rngK
  rw [List.take_succ_eq_append_getElem h, List.all_append, List.getD_eq_getElem?_getD, List.getElem?_eq_getElem h]
  simp [Bool.and_assoc]
theorem lngK_snoc {ps : List (List Int)} {k : Nat} (h : k < ps.length) : lngK ps (k + 1) = (lngK ps k || decide (5 < (ps.getD k []).length)) := by
  unfold lngK
  rw [List.take_succ_eq_append_getElem h, List.any_append, List.getD_eq_getElem?_getD, List.getElem?_eq_getElem h]
  simp
theorem lngK_some {ps : List (List Int)} {k : Nat} (h : k < ps.length) (h5 : 5 < (ps.getD k []).length) : ps.any (fun p => decide (5 < p.length)) = true := by
  rw [List.any_eq_true]
  exact ⟨_, getD_memL h, decide_eq_true h5⟩
theorem recErr_big {d : List Int} {ps : List (List Int)} {tol : Int} (h : 768 < d.length ∨ 16 < ps.length ∨ ps.any (fun p => decide (5 < p.length)) = true) : recErr d ps tol = 3 := by unfold recErr; rw [if_pos h]
theorem recErr_end {d : List Int} {ps : List (List Int)} {tol : Int} {k : Nat} (hk : k = ps.length) (h1 : ¬ 768 < d.length) (h2 : ¬ 16 < ps.length) (h3 : lngK ps k = false) : recErr d ps tol = if rngK d ps tol k = true then 0 else 2 := by
  subst hk
  unfold lngK at h3
  rw [List.take_length] at h3
  unfold recErr rngK
  rw [if_neg (fun g => by rcases g with g | g | g; exact h1 g; exact h2 g; rw [h3] at g; cases g), List.take_length]
  simp only [Bool.and_eq_true, decide_eq_true_eq, and_assoc]
theorem recErr_zero {d : List Int} {ps : List (List Int)} {tol : Int} (h : recErr d ps tol = 0) : Dvd d ps tol := by
  unfold recErr at h
  split at h
  · cases h
  · rename_i h1
    split at h
    · rename_i h2
      obtain ⟨h2, ⟨h3, h4⟩, h5⟩ := h2
      refine ⟨okD_mem h2, fun p hp => ⟨?_, okD_mem (List.all_eq_true.1 h5 p hp)⟩, h3, h4, by omega, by omega⟩
      by_cases g : p.length ≤ 5
      · exact g
      · exact absurd (Or.inr (Or.inr (List.any_eq_true.2 ⟨p, hp, decide_eq_true (by omega)⟩))) h1
    · cases h
set_option maxHeartbeats 3200000 in
theorem val_any (d : List Int) (ps : List (List Int)) (tol : Int) (A A2 : Option Addr) (c c2 : Nat) (w : World) (h : Row .i64 w w.heap.size A d) (hl : d.length ≤ maxLen) (h2 : PP w A2 ps) (hl2 : ps.length ≤ maxLen) :
    Calls Try.prog 29 #[.slice A d.length c, .slice A2 ps.length c2, .int .i64 tol] w fun e w' => e = .returned (.int .i64 (recErr d ps tol)) ∧ w = w' := by
  have HD := Lib.hid (are_any d A c w h hl)
  unfold maxLen at hl hl2
  have H2 := Lib.hid h2
  obtain ⟨L, hL⟩ : ∃ n, n = d.length := ⟨_, rfl⟩
  have HL := Lib.hid hL
  obtain ⟨M, hM⟩ : ∃ n, n = ps.length := ⟨_, rfl⟩
  have HM := Lib.hid hM
  rw [← hL] at hl ⊢
  rw [← hM] at hl2 ⊢
  clear h h2 hL hM
  by_cases t1 : 768 < L
  · have HF := Lib.hid (recErr_big (d := d) (ps := ps) (tol := tol) (Or.inl (by rw [← HL.out]; exact t1)))
    have g1 : (768 : Int) < (L : Int) := by omega
    go_enter Try.func29, Try.ntmps29
    go_wp2_with fail
    go_ret
    exact ⟨ret_int HF.out.symm, rfl⟩
  have g1 : ¬ (768 : Int) < (L : Int) := by omega
  by_cases t2 : 16 < M
  · have HF := Lib.hid (recErr_big (d := d) (ps := ps) (tol := tol) (Or.inr (Or.inl (by rw [← HM.out]; exact t2))))
    have g2 : (16 : Int) < (M : Int) := by omega
    go_enter Try.func29, Try.ntmps29
    go_wp2_with fail
    go_ret
    exact ⟨ret_int HF.out.symm, rfl⟩
  have g2 : ¬ (16 : Int) < (M : Int) := by omega
  obtain ⟨b0, hb0⟩ : ∃ b, b = rngK d ps tol 0 := ⟨_, rfl⟩
  have hb1 : b0 = (okD d && decide (0 ≤ tol ∧ tol ≤ 10000)) := by rw [hb0]; unfold rngK; simp
  have HB0 := Lib.hid hb0
  clear hb0
  have HEND := Lib.hid (show ∀ k, k = M → lngK ps k = false → recErr d ps tol = if rngK d ps tol k = true then 0 else 2 from fun k hk h => recErr_end (by rw [hk, HM.out]) (by rw [← HL.out]; exact t1) (by rw [← HM.out]; exact t2) h)
  go_enter Try.func29, Try.ntmps29
  go_upto_region 3 with fail
  go_cut [7] (fun v wc => v = .bool b0 ∧ wc = w)
  case first =>
    cases hd : okD d with
    | false =>
      have e0 : b0 = false := by rw [hb1, hd]; rfl
      subst e0
      clear hb1
      go_wp2_with (first | (go_at_call 42; refine (show Calls _ _ _ _ _ from by have := HD.out; rw [← HL.out, hd] at this; exact this).mono ?_; rintro e w' ⟨rfl, rfl⟩))
      go_meet
      case rel => exact ⟨rfl, rfl⟩
    | true =>
      by_cases u1 : 0 ≤ tol
      · by_cases u2 : tol ≤ 10000
        · have e0 : b0 = true := by rw [hb1, hd, decide_eq_true ⟨u1, u2⟩]; rfl
          subst e0
          clear hb1
          go_wp2_with (first | (go_at_call 42; refine (show Calls _ _ _ _ _ from by have := HD.out; rw [← HL.out, hd] at this; exact this).mono ?_; rintro e w' ⟨rfl, rfl⟩))
          go_meet
          case rel => exact ⟨by simp [u1, u2], rfl⟩
        · have e0 : b0 = false := by rw [hb1, hd, decide_eq_false (fun g => u2 g.2)]; rfl
          subst e0
          clear hb1
          go_wp2_with (first | (go_at_call 42; refine (show Calls _ _ _ _ _ from by have := HD.out; rw [← HL.out, hd] at this; exact this).mono ?_; rintro e w' ⟨rfl, rfl⟩))
          go_meet
          case rel => exact ⟨by simp [u1, u2], rfl⟩
      · have e0 : b0 = false := by rw [hb1, hd, decide_eq_false (fun g => u1 g.1)]; rfl
        subst e0
        clear hb1
        go_wp2_with (first | (go_at_call 42; refine (show Calls _ _ _ _ _ from by have := HD.out; rw [← HL.out, hd] at this; exact this).mono ?_; rintro e w' ⟨rfl, rfl⟩))
        go_meet
        case rel => exact ⟨by simp [u1], rfl⟩
  obtain ⟨rfl, rfl⟩ := hcut
  clear hb1
  go_wp2_with fail
  go_loopw [7, 30] (fun v i wr => ∃ k : Nat, k ≤ M ∧ i = .int .i64 k ∧ ∃ b : Bool, v = .bool b ∧ Hid (b = rngK d ps tol k) ∧ Hid (lngK ps k = false) ∧ wr = wc) (fun _ i _ => M - (intOf i).toNat)
  case atStart => exact ⟨0, by omega, rfl, b0, rfl, HB0, Lib.hid rfl, rfl⟩
  case round =>
    clear HB0 HD
    obtain ⟨k, hk, rfl, b, rfl, HB, HG, rfl⟩ := hrel
    by_cases hlt : k < M
    · obtain ⟨ad, rfl, a1, cp, cc, hr, hm⟩ := H2.out.at_ (k := k) (by rw [← HM.out]; exact hlt)
      have HSN := Lib.hid (rngK_snoc (d := d) (ps := ps) (tol := tol) (k := k) (by rw [← HM.out]; exact hlt))
      have HLN := Lib.hid (lngK_snoc (ps := ps) (k := k) (by rw [← HM.out]; exact hlt))
      have HAR := Lib.hid (are_any (ps.getD k []) a1 cp wr hr hm)
      obtain ⟨p, hp⟩ : ∃ p, p = ps.getD k [] := ⟨_, rfl⟩
      have HP := Lib.hid hp
      rw [← hp] at cc HSN HLN HAR hm
      obtain ⟨q, hq⟩ : ∃ q, q = p.length := ⟨_, rfl⟩
      rw [← hq] at cc HLN HAR hm
      unfold maxLen at hm
      have HQ := Lib.hid hq
      clear hp hr hq
      by_cases t5 : 5 < q
      · have HF := Lib.hid (recErr_big (d := d) (ps := ps) (tol := tol) (Or.inr (Or.inr (lngK_some (k := k) (by rw [← HM.out]; exact hlt) (by rw [← HP.out, ← HQ.out]; exact t5)))))
        have g5 : (5 : Int) < (q : Int) := by omega
        go_wp2_with fail
        go_ret
        exact ⟨ret_int HF.out.symm, rfl⟩
      · have g5 : ¬ (5 : Int) < (q : Int) := by omega
        have HL2 := Lib.hid (show lngK ps (k + 1) = false by rw [HLN.out, HG.out, decide_eq_false t5]; rfl)
        cases b with
        | false =>
          have HB2 := Lib.hid (show false = rngK d ps tol (k + 1) by rw [HSN.out, ← HB.out]; rfl)
          go_wp2_with fail
          go_roundw
          case rel => exact ⟨k + 1, by omega, by go_num, false, rfl, HB2, HL2, by trivial⟩
          case measure => simp [intOf] <;> omega
        | true =>
          have HB2 := Lib.hid (show okD p = rngK d ps tol (k + 1) by rw [HSN.out, ← HB.out]; rfl)
          go_wp2_with (first | (go_at_call 42; refine HAR.out.mono ?_; rintro e w' ⟨rfl, rfl⟩))
          go_roundw
          case rel => exact ⟨k + 1, by omega, by go_num, _, rfl, HB2, HL2, by trivial⟩
          case measure => simp [intOf] <;> omega
    · have HE := Lib.hid (HEND.out k (by omega) HG.out)
      cases b with
      | false =>
        have HE2 := Lib.hid (show recErr d ps tol = 2 by rw [HE.out, ← HB.out]; rfl)
        go_wp2_with fail
        go_ret
        exact ⟨ret_int HE2.out.symm, rfl⟩
      | true =>
        have HE2 := Lib.hid (show recErr d ps tol = 0 by rw [HE.out, ← HB.out]; rfl)
        go_wp2_with fail
        go_ret
        exact ⟨ret_int HE2.out.symm, rfl⟩
end Go.Proofs.Ytgiodpepjajlmaa
