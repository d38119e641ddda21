/-
  Stage 8: the program's table of edits; isPossible.
-/
import Derived.Test.YtbdiilkdajadcaaDoorRMath
import Derived.Test.YtbdiilkdajadcaaDoorNum
set_option linter.unusedSimpArgs false
set_option linter.unusedVariables false
namespace Go.Proofs.YtbdiilkdajadcaaDoor
open Go.RowKit

def kdL : List Int := [1, 1, 0, 1, 1, 3, 1, 0, 4, 0, 1, 4, 2, 2, 4]
/-- The table of edits lies in the variable's block. -/
structure Knd (w : World) : Prop where
  cs : ∀ k, k < 15 → w.cell? ⟨0, k, none⟩ = some (.int .i64 (kdL.getD k 0))
theorem Knd.lt {w : World} (h : Knd w) : 0 < w.heap.size := lt_of_cell (h.cs 0 (by decide))
theorem Knd.below {w w' : World} {B : Nat} (h : Knd w) (k : Below B w w') (hB : 0 < B) : Knd w' := ⟨fun j hj => (k.cell (p := ⟨0, j, none⟩) hB).trans (h.cs j hj)⟩
theorem Knd.below' {w w' : World} (h : Knd w) (k : Below w.heap.size w w') : Knd w' := h.below k h.lt

theorem okI_neg {a b : List Int} {i j : Nat} {e : Int} (h : ¬ (0 ≤ e ∧ e < 5)) : okI a b i j e = false := by
  unfold okI; rw [decide_eq_false h]; rfl
theorem okI_nat {a b : List Int} {i j n : Nat} (h : n < 5) : okI a b i j (n : Int) = okP a b i j n := by
  unfold okI; rw [decide_eq_true ⟨by omega, by omega⟩]; rfl
theorem okP_drop {a b : List Int} {i j : Nat} (n : Nat) : okP (a.drop i) (b.drop j) 0 0 n = okP a b i j n := by
  have g : ∀ (l : List Int) (i k : Nat), (l.drop i).getD k 0 = l.getD (i + k) 0 := fun l i k => by
    rw [List.getD_eq_getElem?_getD, List.getElem?_drop, List.getD_eq_getElem?_getD]
  match n with
  | 0 => unfold okP; simp only [g, List.length_drop]; apply decide_eq_decide.2; simp only [Nat.add_zero]; omega
  | 1 => unfold okP; simp only [g, List.length_drop]; apply decide_eq_decide.2; simp only [Nat.add_zero]; omega
  | 2 => unfold okP; simp only [g, List.length_drop]; apply decide_eq_decide.2; omega
  | 3 => unfold okP; simp only [g, List.length_drop]; apply decide_eq_decide.2; omega
  | 4 => unfold okP; simp only [g, List.length_drop]; apply decide_eq_decide.2; simp only [Nat.add_zero, Nat.zero_add]; omega
  | n + 5 => rfl
theorem okI_drop {a b : List Int} {i j : Nat} (e : Int) : okI (a.drop i) (b.drop j) 0 0 e = okI a b i j e := by
  unfold okI; rw [okP_drop]

theorem row_c0 {w : World} {B : Nat} {A : Option Addr} {zs : List Int} (h : Row .i64 w B A zs) (hl : 0 < zs.length) : ∃ ad, A = some ad ∧ w.cell? ad = some (.int .i64 (zs.getD 0 0)) := by
  obtain ⟨ad, e, _, hc⟩ := h 0 hl
  exact ⟨ad, e, hc⟩
theorem row_c1 {w : World} {B : Nat} {ad : Addr} {zs : List Int} (h : Row .i64 w B (some ad) zs) (hl : 1 < zs.length) : w.cell? ⟨ad.block, ad.off + 1, none⟩ = some (.int .i64 (zs.getD 1 0)) := by
  obtain ⟨ad', e, _, hc⟩ := h 1 hl
  injection e with e
  subst e
  exact hc
set_option maxHeartbeats 3200000 in
theorem isp_any (e : Int) (a b : List Int) (A B : Option Addr) (ca cb : Nat) (w : World) (hK : Knd w) (ha : Row .i64 w w.heap.size A a) (hb : Row .i64 w w.heap.size B b) (la : a.length ≤ 1000000000) (lb : b.length ≤ 1000000000) :
    Calls Tryd.prog 34 #[.int .i64 e, .slice A a.length ca, .slice B b.length cb] w fun en w' => en = .returned (.bool (okI a b 0 0 e)) ∧ ∃ n, w' = w.drewN n := by
  have k0 := hK.cs 0 (by decide)
  have k1 := hK.cs 1 (by decide)
  have k3 := hK.cs 3 (by decide)
  have k4 := hK.cs 4 (by decide)
  have k6 := hK.cs 6 (by decide)
  have k7 := hK.cs 7 (by decide)
  have k9 := hK.cs 9 (by decide)
  have k10 := hK.cs 10 (by decide)
  have k12 := hK.cs 12 (by decide)
  have k13 := hK.cs 13 (by decide)
  simp only [kdL, List.getD_cons_zero, List.getD_cons_succ] at k0 k1 k3 k4 k6 k7 k9 k10 k12 k13
  by_cases e0 : e < 0
  · have HF := Lib.hid (okI_neg (a := a) (b := b) (i := 0) (j := 0) (e := e) (by omega))
    go_enter Tryd.func34, Tryd.ntmps34
    go_wp2_with fail
    go_ret
    exact ⟨ret_bool HF.out.symm, 0, rfl⟩
  by_cases e5 : 5 ≤ e
  · have HF := Lib.hid (okI_neg (a := a) (b := b) (i := 0) (j := 0) (e := e) (by omega))
    go_enter Tryd.func34, Tryd.ntmps34
    go_wp2_with fail
    go_ret
    exact ⟨ret_bool HF.out.symm, 0, rfl⟩
  obtain ⟨n, rfl⟩ := Int.eq_ofNat_of_zero_le (by omega : 0 ≤ e)
  rw [okI_nat (by omega)]
  have H0 := Lib.hid (okP0 (a := a) (b := b) (i := 0) (j := 0))
  have H1 := Lib.hid (okP1 (a := a) (b := b) (i := 0) (j := 0))
  have H2 := Lib.hid (okP2 (a := a) (b := b) (i := 0) (j := 0))
  have H3 := Lib.hid (okP3 (a := a) (b := b) (i := 0) (j := 0))
  have H4 := Lib.hid (okP4 (a := a) (b := b) (i := 0) (j := 0))
  have HA := Lib.hid ha
  have HB := Lib.hid hb
  obtain ⟨La, hLa⟩ : ∃ La, La = a.length := ⟨_, rfl⟩
  obtain ⟨Lb, hLb⟩ : ∃ Lb, Lb = b.length := ⟨_, rfl⟩
  have HLa := Lib.hid hLa
  have HLb := Lib.hid hLb
  rw [← hLa] at la H0 H1 H2 H4 ⊢
  rw [← hLb] at lb H0 H1 H3 H4 ⊢
  clear ha hb hLa hLb
  have h5 : n = 0 ∨ n = 1 ∨ n = 2 ∨ n = 3 ∨ n = 4 := by omega
  rcases h5 with rfl | rfl | rfl | rfl | rfl
  all_goals clear e0 e5
  · by_cases z1 : 0 < La
    · have z1' : ¬ (La : Int) < 1 := by omega
      by_cases z2 : 0 < Lb
      · have z2' : ¬ (Lb : Int) < 1 := by omega
        obtain ⟨ad, rfl, ca0⟩ := row_c0 HA.out (by rw [← HLa.out]; exact z1)
        obtain ⟨bd, rfl, cb0⟩ := row_c0 HB.out (by rw [← HLb.out]; exact z2)
        have HF := Lib.hid (show decide (a.getD 0 0 = b.getD 0 0) = okP a b 0 0 0 by rw [Bool.eq_iff_iff, H0.out, decide_eq_true_iff]; exact ⟨fun h => ⟨z1, z2, h⟩, fun h => h.2.2⟩)
        generalize a.getD 0 0 = x at *
        generalize b.getD 0 0 = y at *
        have z3 : (0 : Int) < (La : Int) := by omega
        have z4 : (0 : Int) < (Lb : Int) := by omega
        by_cases hxy : x = y
        · subst hxy
          simp only [ne_eq, not_true_eq_false, decide_true, decide_false] at HF
          go_enter Tryd.func34, Tryd.ntmps34
          go_wp2_with fail
          go_quiet (fail)
          go_wp2_with fail
          go_ret
          exact ⟨ret_bool HF.out, _, rfl⟩
        · have hq : (x == y) = false := beq_eq_false_iff_ne.2 hxy
          rw [decide_eq_false hxy] at HF
          go_enter Tryd.func34, Tryd.ntmps34
          go_wp2_with fail
          go_quiet (fail)
          go_wp2_with fail
          go_ret
          exact ⟨ret_bool HF.out, _, rfl⟩
      · obtain rfl : Lb = 0 := by omega
        have HF := Lib.hid (show false = okP a b 0 0 0 by rw [Bool.eq_iff_iff, H0.out]; exact ⟨fun h => (by cases h), fun h => absurd h.2.1 (by omega)⟩)
        go_enter Tryd.func34, Tryd.ntmps34
        go_wp2_with fail
        go_ret
        exact ⟨ret_bool HF.out, 0, rfl⟩
    · obtain rfl : La = 0 := by omega
      have HF := Lib.hid (show false = okP a b 0 0 0 by rw [Bool.eq_iff_iff, H0.out]; exact ⟨fun h => (by cases h), fun h => absurd h.1 (by omega)⟩)
      go_enter Tryd.func34, Tryd.ntmps34
      go_wp2_with fail
      go_ret
      exact ⟨ret_bool HF.out, 0, rfl⟩
  · by_cases z1 : 0 < La
    · have z1' : ¬ (La : Int) < 1 := by omega
      by_cases z2 : 0 < Lb
      · have z2' : ¬ (Lb : Int) < 1 := by omega
        obtain ⟨ad, rfl, ca0⟩ := row_c0 HA.out (by rw [← HLa.out]; exact z1)
        obtain ⟨bd, rfl, cb0⟩ := row_c0 HB.out (by rw [← HLb.out]; exact z2)
        have HF := Lib.hid (show decide (a.getD 0 0 ≠ b.getD 0 0) = okP a b 0 0 1 by rw [Bool.eq_iff_iff, H1.out, decide_eq_true_iff]; exact ⟨fun h => ⟨z1, z2, h⟩, fun h => h.2.2⟩)
        generalize a.getD 0 0 = x at *
        generalize b.getD 0 0 = y at *
        have z3 : (0 : Int) < (La : Int) := by omega
        have z4 : (0 : Int) < (Lb : Int) := by omega
        by_cases hxy : x = y
        · subst hxy
          simp only [ne_eq, not_true_eq_false, decide_true, decide_false] at HF
          go_enter Tryd.func34, Tryd.ntmps34
          go_wp2_with fail
          go_quiet (fail)
          go_wp2_with fail
          go_ret
          exact ⟨ret_bool HF.out, _, rfl⟩
        · have hq : (x == y) = false := beq_eq_false_iff_ne.2 hxy
          have hq2 : (x != y) = true := by simp [bne, hq]
          rw [decide_eq_true hxy] at HF
          go_enter Tryd.func34, Tryd.ntmps34
          go_wp2_with fail
          go_quiet (fail)
          go_wp2_with fail
          go_ret
          exact ⟨ret_bool HF.out, _, rfl⟩
      · obtain rfl : Lb = 0 := by omega
        have HF := Lib.hid (show false = okP a b 0 0 1 by rw [Bool.eq_iff_iff, H1.out]; exact ⟨fun h => (by cases h), fun h => absurd h.2.1 (by omega)⟩)
        go_enter Tryd.func34, Tryd.ntmps34
        go_wp2_with fail
        go_ret
        exact ⟨ret_bool HF.out, 0, rfl⟩
    · obtain rfl : La = 0 := by omega
      have HF := Lib.hid (show false = okP a b 0 0 1 by rw [Bool.eq_iff_iff, H1.out]; exact ⟨fun h => (by cases h), fun h => absurd h.1 (by omega)⟩)
      go_enter Tryd.func34, Tryd.ntmps34
      go_wp2_with fail
      go_ret
      exact ⟨ret_bool HF.out, 0, rfl⟩
  · by_cases z1 : 0 < La
    · have z1' : ¬ (La : Int) < 1 := by omega
      have z2' : ¬ (Lb : Int) < 0 := by omega
      have HF := Lib.hid (show true = okP a b 0 0 2 by rw [Bool.eq_iff_iff, H2.out]; exact ⟨fun _ => z1, fun _ => rfl⟩)
      go_enter Tryd.func34, Tryd.ntmps34
      go_wp2_with fail
      go_ret
      exact ⟨ret_bool HF.out, 0, rfl⟩
    · obtain rfl : La = 0 := by omega
      have HF := Lib.hid (show false = okP a b 0 0 2 by rw [Bool.eq_iff_iff, H2.out]; exact ⟨fun h => (by cases h), fun h => absurd h (by omega)⟩)
      go_enter Tryd.func34, Tryd.ntmps34
      go_wp2_with fail
      go_ret
      exact ⟨ret_bool HF.out, 0, rfl⟩
  · have z1' : ¬ (La : Int) < 0 := by omega
    by_cases z2 : 0 < Lb
    · have z2' : ¬ (Lb : Int) < 1 := by omega
      have HF := Lib.hid (show true = okP a b 0 0 3 by rw [Bool.eq_iff_iff, H3.out]; exact ⟨fun _ => z2, fun _ => rfl⟩)
      go_enter Tryd.func34, Tryd.ntmps34
      go_wp2_with fail
      go_ret
      exact ⟨ret_bool HF.out, 0, rfl⟩
    · obtain rfl : Lb = 0 := by omega
      have HF := Lib.hid (show false = okP a b 0 0 3 by rw [Bool.eq_iff_iff, H3.out]; exact ⟨fun h => (by cases h), fun h => absurd h (by omega)⟩)
      go_enter Tryd.func34, Tryd.ntmps34
      go_wp2_with fail
      go_ret
      exact ⟨ret_bool HF.out, 0, rfl⟩
  · by_cases z1 : 1 < La
    · have z1' : ¬ (La : Int) < 2 := by omega
      by_cases z2 : 1 < Lb
      · have z2' : ¬ (Lb : Int) < 2 := by omega
        obtain ⟨ad, rfl, ca0⟩ := row_c0 HA.out (by rw [← HLa.out]; omega)
        obtain ⟨bd, rfl, cb0⟩ := row_c0 HB.out (by rw [← HLb.out]; omega)
        have ca1 := row_c1 HA.out (by rw [← HLa.out]; omega)
        have cb1 := row_c1 HB.out (by rw [← HLb.out]; omega)
        have HF := Lib.hid (show (decide (a.getD 0 0 = b.getD 1 0) && decide (a.getD 1 0 = b.getD 0 0) && decide (a.getD 0 0 ≠ a.getD 1 0)) = okP a b 0 0 4 by
          rw [Bool.eq_iff_iff, H4.out, Bool.and_eq_true, Bool.and_eq_true, decide_eq_true_iff, decide_eq_true_iff, decide_eq_true_iff]
          exact ⟨fun h => ⟨by omega, by omega, h.1.1, h.1.2, h.2⟩, fun h => ⟨⟨h.2.2.1, h.2.2.2.1⟩, h.2.2.2.2⟩⟩)
        generalize a.getD 0 0 = x at *
        generalize b.getD 0 0 = y at *
        generalize a.getD 1 0 = x1 at *
        generalize b.getD 1 0 = y1 at *
        have z3 : (0 : Int) < (La : Int) := by omega
        have z4 : (0 : Int) < (Lb : Int) := by omega
        have z5 : (1 : Int) < (La : Int) := by omega
        have z6 : (1 : Int) < (Lb : Int) := by omega
        by_cases g1 : x = y1
        · subst g1
          by_cases g2 : x1 = y
          · subst g2
            by_cases g3 : x = x1
            · subst g3
              simp only [ne_eq, not_true_eq_false, decide_true, decide_false, Bool.and_true, Bool.and_false, Bool.true_and, Bool.false_and] at HF
              go_enter Tryd.func34, Tryd.ntmps34
              go_wp2_with fail
              go_quiet (fail)
              go_wp2_with fail
              go_ret
              exact ⟨ret_bool HF.out, _, rfl⟩
            · have hq : (x == x1) = false := beq_eq_false_iff_ne.2 g3
              have hq2 : (x != x1) = true := by simp [bne, hq]
              rw [decide_eq_true rfl, decide_eq_true rfl, decide_eq_true g3] at HF
              simp only [Bool.and_true] at HF
              go_enter Tryd.func34, Tryd.ntmps34
              go_wp2_with fail
              go_quiet (fail)
              go_wp2_with fail
              go_ret
              exact ⟨ret_bool HF.out, _, rfl⟩
          · have hq : (x1 == y) = false := beq_eq_false_iff_ne.2 g2
            rw [decide_eq_true rfl, decide_eq_false g2] at HF
            simp only [Bool.and_true, Bool.and_false, Bool.true_and, Bool.false_and] at HF
            go_enter Tryd.func34, Tryd.ntmps34
            go_wp2_with fail
            go_quiet (fail)
            go_wp2_with fail
            go_ret
            exact ⟨ret_bool HF.out, _, rfl⟩
        · have hq : (x == y1) = false := beq_eq_false_iff_ne.2 g1
          rw [decide_eq_false g1] at HF
          simp only [Bool.and_true, Bool.and_false, Bool.true_and, Bool.false_and] at HF
          go_enter Tryd.func34, Tryd.ntmps34
          go_wp2_with fail
          go_quiet (fail)
          go_wp2_with fail
          go_ret
          exact ⟨ret_bool HF.out, _, rfl⟩
      · have z2' : (Lb : Int) < 2 := by omega
        have HF := Lib.hid (show false = okP a b 0 0 4 by rw [Bool.eq_iff_iff, H4.out]; exact ⟨fun h => (by cases h), fun h => absurd h.2.1 (by omega)⟩)
        go_enter Tryd.func34, Tryd.ntmps34
        go_wp2_with fail
        go_ret
        exact ⟨ret_bool HF.out, 0, rfl⟩
    · have z1' : (La : Int) < 2 := by omega
      have HF := Lib.hid (show false = okP a b 0 0 4 by rw [Bool.eq_iff_iff, H4.out]; exact ⟨fun h => (by cases h), fun h => absurd h.1 (by omega)⟩)
      go_enter Tryd.func34, Tryd.ntmps34
      go_wp2_with fail
      go_ret
      exact ⟨ret_bool HF.out, 0, rfl⟩
end Go.Proofs.YtbdiilkdajadcaaDoor
