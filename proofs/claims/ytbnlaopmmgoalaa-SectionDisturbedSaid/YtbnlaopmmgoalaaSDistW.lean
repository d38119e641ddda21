/-
  Stage 5: the walk of SectionDisturbed.
-/
import Derived.Test.YtbnlaopmmgoalaaSSane
import Derived.Test.YtbnlaopmmgoalaaSMk
set_option linter.unusedSimpArgs false
set_option linter.unusedVariables false
namespace Go.Proofs.Ytbnlaopmmgoalaa
open Go.RowKit

theorem PRow.take {w : World} {A : Option Addr} {l : List Pul} (h : PRow w A l) (k : Nat) : PRow w A (l.take k) := by
  refine ⟨?_, by rw [List.length_take]; have := h.len; omega⟩
  have := h.row.take (k * 3)
  have e : (flatP l).take (k * 3) = flatP (l.take k) := by
    clear this h
    induction l generalizing k with
    | nil => simp [flatP]
    | cons p l ih =>
      cases k with
      | zero => simp [flatP]
      | succ k =>
        rw [show (k + 1) * 3 = k * 3 + 3 by omega, List.take_succ_cons]
        show (p.1 :: p.2.1 :: p.2.2 :: flatP l).take (k * 3 + 3) = p.1 :: p.2.1 :: p.2.2 :: flatP (l.take k)
        rw [← ih k]
        simp
  rwa [e] at this
theorem chk_ok {l p : List Pul} {s : Int} (hb : Bor l) (hl : l.length ≤ 64) (hr : run 0 p) (hp : p.length ≤ 4096) (h1 : 0 ≤ s) (h2 : s ≤ 31) : chkR l p s = 0 := by
  unfold chkR
  rw [if_pos (bord_of hb hl), if_pos (valid_of hr hp), if_neg (by omega)]
theorem state_ok {l p : List Pul} {s r : Int} (h : chkR l p s = 0) : (stateR l p s r = (2, 0) ∧ disR l p s r = true) ∨ ∃ u, stateR l p s r = (u, 0) ∧ (u = 0 ∨ u = 1) ∧ disR l p s r = false := by
  unfold stateR
  rw [if_pos h]
  by_cases hd : disR l p s r = true
  · rw [if_pos hd]; exact Or.inl ⟨rfl, hd⟩
  · rw [if_neg hd]
    refine Or.inr ?_
    have hd' : disR l p s r = false := by cases e : disR l p s r <;> simp_all
    by_cases hc : 0 < cntR l p s r
    · rw [if_pos hc]; exact ⟨1, rfl, Or.inr rfl, hd'⟩
    · rw [if_neg hc]; exact ⟨0, rfl, Or.inl rfl, hd'⟩
theorem effT_late {l : List Pul} {s : Int} {x : Pul} (hx : okP x) : effT l s 1000000000 x = 0 := by
  unfold effT; rw [if_neg (by have := hx.2.1; omega)]
theorem late_sum {l p : List Pul} {s : Int} (h : ∀ x ∈ p, okP x) : sum (effT l s 1000000000) p = 0 ∧ neg (effT l s 1000000000) 0 p = false := by
  induction p with
  | nil => exact ⟨rfl, rfl⟩
  | cons x p ih =>
    have hx : effT l s 1000000000 x = 0 := effT_late (h x (List.mem_cons_self ..))
    have := ih fun y hy => h y (List.mem_cons_of_mem _ hy)
    constructor
    · show effT l s 1000000000 x + sum _ p = 0
      rw [hx, this.1]; rfl
    · show (decide (0 + effT l s 1000000000 x < 0) || neg (effT l s 1000000000) (0 + effT l s 1000000000 x) p) = false
      rw [hx]
      exact this.2
theorem late_state {l p : List Pul} {s : Int} (h : chkR l p s = 0) (hx : ∀ x ∈ p, okP x) : stateR l p s 1000000000 = (0, 0) := by
  unfold stateR disR cntR
  rw [if_pos h, (late_sum hx).2, if_neg (by decide), (late_sum hx).1, if_neg (by decide)]
theorem dis_more {l p : List Pul} {s r : Int} {k : Nat} (h : disR l (p.take k) s r = true) : disR l (p.take (k + 1)) s r = true := by
  unfold disR at *
  have : (p.take (k + 1)).take k = p.take k := by rw [List.take_take, Nat.min_eq_left (by omega)]
  exact neg_take _ (p.take (k + 1)) k (by rw [this]; exact h)
theorem run_take {p : List Pul} (h : run 0 p) (k : Nat) : run 0 (p.take k) := run_app (q := p.drop k) (by rw [List.take_append_drop]; exact h)

set_option maxRecDepth 100000 in
set_option maxHeartbeats 1600000 in
theorem dist_walk (t : Option Addr) (len cap : Nat) (zs : List Int) (w : World) (h : IsRow .i64 w t len cap zs) :
    Calls Try.prog 8 #[.slice t len cap] w fun e w' => e = .returned (.bool true) ∧ Below w.heap.size w w' := by
  have K0 := Lib.hid (mk_new (T := 58) h)
  clear h
  go_enter Try.func8, Try.ntmps8
  go_wp2_with fail
  refine (new_any t len cap w).mono ?_
  rintro e w1 ⟨rfl, e1⟩
  have HB1 := Lib.hid (show Below w.heap.size w w1 by rw [e1]; exact (Below.refl _ _).alloc (Nat.le_refl _) _)
  have K1 := Lib.hid (show IsMk w1 w.heap.size 0 by rw [e1]; exact K0.out)
  clear e1 K0
  go_wp2_with fail
  refine (mborders_any w.heap.size 0 10 w1 K1.out (by decide) (by decide)).mono ?_
  rintro e w2 ⟨v2, l, rfl, O2, hl, hbor, K2, M2⟩
  have HB2 := Lib.hid (M2.below HB1.out (Nat.le_refl _) HB1.out.size)
  have HK2 := Lib.hid K2
  have HO2 := Lib.hid (show TOwn 24 w2 (w.heap.size + 1) v2 l from O2.base K1.out.lt)
  clear O2 K2 M2
  go_wp2_with fail
  refine (mpulses_any w.heap.size (0 + 1 + 3 * 10) 24 w2 HK2.out (by decide) (by decide)).mono ?_
  rintro e w3 ⟨v3, p, rfl, O3, hp, hrun, K3, M3⟩
  have HB3 := Lib.hid (M3.below HB2.out (Nat.le_refl _) HB2.out.size)
  obtain ⟨A, c, rfl, R, _⟩ := (HO2.out.moves M3 (by omega)).full
  obtain ⟨A2, c2, rfl, R2, h1, h2, _⟩ := O3.full
  have HR := Lib.hid R
  have HR2 := Lib.hid R2
  have HX := Lib.hid (run_mem hrun)
  have HC := Lib.hid (show ∀ (k : Nat) (s : Int), 0 ≤ s → s ≤ 31 → chkR l (p.take k) s = 0 from fun k s h1 h2 => chk_ok hbor (by omega) (run_take hrun k) (by rw [List.length_take]; omega) h1 h2)
  have hll := R.len
  obtain ⟨L, hL⟩ : ∃ n, n = l.length := ⟨_, rfl⟩
  obtain ⟨P, hP⟩ : ∃ n, n = p.length := ⟨_, rfl⟩
  have HL := Lib.hid hL
  have HP := Lib.hid hP
  rw [← hL] at hl hll ⊢
  rw [← hP] at hp h1 ⊢
  clear hL hP R R2 O3 K3 M3 hrun hbor HO2 HK2 HB2 HB1 K1
  go_wp2_with fail
  go_loopw [6] (fun sv wr => ∃ s : Nat, s ≤ 4 ∧ sv = .int .i64 (s : Int) ∧ Hid (PRow wr A l) ∧ Hid (PRow wr A2 p) ∧ Hid (Below w.heap.size w wr)) (fun sv _ => 4 - (intOf sv).toNat)
  case atStart => exact ⟨0, by omega, rfl, HR, HR2, HB3⟩
  case round =>
    clear HR HR2 HB3
    obtain ⟨s, hs, rfl, R, R2, B⟩ := hrel
    by_cases hs4 : s < 4
    · have hds : decide ((s : Int) < 4) = true := decide_eq_true (by omega)
      have HS4 := Lib.hid hs4
      obtain ⟨wo, hwo⟩ : ∃ x, x = wr := ⟨_, rfl⟩
      subst hwo
      go_wp2_with fail
      go_loopw [8, 7] (fun iv bv wx => ∃ k : Nat, k ≤ P + 1 ∧ iv = .int .i64 (k : Int) ∧ ∃ b : Bool, bv = .bool b ∧ Hid (b = true → disR l (p.take k) s (-1) = true) ∧ Hid (PRow wx A l) ∧ Hid (PRow wx A2 p) ∧ Hid (Below w.heap.size w wx)) (fun iv _ _ => P + 1 - (intOf iv).toNat)
      case atStart => exact ⟨0, by omega, rfl, false, rfl, Lib.hid (fun h => by cases h), R, R2, B⟩
      case round =>
        clear R R2 B
        obtain ⟨k, hk, rfl, b, rfl, G, R, R2, B⟩ := hrel
        by_cases hkP : k ≤ P
        · have hkc : (k : Int) ≤ (c2 : Int) := by omega
          have hkl : (p.take k).length = k := by rw [List.length_take, ← HP.out]; omega
          have ca := pstate_any l (p.take k) A A2 c c2 s (-1) wr R.out (R2.out.take k)
          rw [hkl, ← HL.out] at ca
          have HCA := Lib.hid ca
          clear ca hkl
          go_wp2_with fail
          refine HCA.out.mono ?_
          rintro e w4 ⟨rfl, B4⟩
          have R' := Lib.hid (R.out.below B4)
          have R2' := Lib.hid (R2.out.below B4)
          have B' := Lib.hid (B.out.trans (B4.mono B.out.size))
          clear HCA B4 R R2 B
          rcases state_ok (r := -1) (HC.out k s (by omega) (by omega)) with ⟨hst, hdi⟩ | ⟨u, hst, hu, hdi⟩
          · rw [hst]
            have HD := Lib.hid (dis_more hdi)
            clear hst hdi
            cases b with
            | true =>
              go_wp2_with fail
              go_roundw
              case rel => exact ⟨k + 1, by omega, by go_num, true, rfl, Lib.hid (fun _ => HD.out), R', R2', B'⟩
              case measure => simp [intOf]; omega
            | false =>
              go_wp2_with fail
              go_roundw
              case rel => exact ⟨k + 1, by omega, by go_num, true, rfl, Lib.hid (fun _ => HD.out), R', R2', B'⟩
              case measure => simp [intOf]; omega
          · rw [hst]
            cases b with
            | true => have := G.out rfl; rw [hdi] at this; cases this
            | false =>
              have hu2 : (u == 2) = false := beq_eq_false_iff_ne.2 (by omega)
              clear hst hdi hu
              go_wp2_with fail
              go_roundw
              case rel => exact ⟨k + 1, by omega, by go_num, false, rfl, Lib.hid (fun h => by cases h), R', R2', B'⟩
              case measure => simp [intOf]; omega
        · obtain rfl : k = P + 1 := by omega
          have ca := pstate_any l p A A2 c c2 s 1000000000 wr R.out R2.out
          have hc := HC.out (P + 1) s (by omega) (by omega)
          rw [List.take_of_length_le (by rw [← HP.out]; omega)] at hc
          rw [late_state hc HX.out, ← HL.out, ← HP.out] at ca
          have HCA := Lib.hid ca
          clear ca hc hkP hk
          go_wp2_with fail
          refine HCA.out.mono ?_
          rintro e w4 ⟨rfl, B4⟩
          have R' := Lib.hid (R.out.below B4)
          have R2' := Lib.hid (R2.out.below B4)
          have B' := Lib.hid (B.out.trans (B4.mono B.out.size))
          clear HCA B4 R R2 B
          go_wp2_with fail
          go_roundw
          case rel => exact ⟨s + 1, by have := HS4.out; omega, by go_num, R', R2', B'⟩
          case measure => have := HS4.out; simp [intOf]; omega
    · obtain rfl : s = 4 := by omega
      go_wp2_with fail
      refine (sane_any wr).mono ?_
      rintro e w4 ⟨rfl, B4⟩
      have B' := Lib.hid (B.out.trans (B4.mono B.out.size))
      clear B4
      go_wp2_with fail
      go_ret
      exact ⟨rfl, B'.out⟩
end Go.Proofs.Ytbnlaopmmgoalaa
