/-
  Stage 8: the reference's edit, long.
-/
import Derived.Test.YtbdiilkdajadcaaDoorRIsp
import Derived.IntWalk
set_option linter.unusedSimpArgs false
set_option linter.unusedVariables false
namespace Go.Proofs.YtbdiilkdajadcaaDoor
open Go.RowKit

theorem results_tmp4 {P : Program} {fn : Func} {a b c d : Tmp} (hf : fn.results = #[.tmp a, .tmp b, .tmp c, .tmp d]) (tmps : Array Value) (w : World) (u v x y : Value) (h1 : tmps.getD a undef = u) (h2 : tmps.getD b undef = v) (h3 : tmps.getD c undef = x) (h4 : tmps.getD d undef = y) : (results fn tmps).run P w = .ok (.tuple #[u, v, x, y]) w := by
  subst h1; subst h2; subst h3; subst h4; simp [results, hf]
/-- What edit answers to a number. -/
abbrev edV (k l : Nat) (c : Int) (ok : Bool) : Value := .tuple #[.int .i64 (k : Int), .int .i64 (l : Int), .int .i64 c, .bool ok]
theorem row_ci {w : World} {B : Nat} {A : Option Addr} {zs : List Int} (h : Row .i64 w B A zs) {i : Nat} (hl : i < zs.length) : ∃ ad, A = some ad ∧ w.cell? (ad.add i) = some (.int .i64 (zs.getD i 0)) := by
  obtain ⟨ad, e, _, hc⟩ := h i hl
  exact ⟨ad, e, hc⟩
theorem row_cn {w : World} {B : Nat} {ad : Addr} {zs : List Int} (h : Row .i64 w B (some ad) zs) {i : Nat} (hl : i < zs.length) : w.cell? (ad.add i) = some (.int .i64 (zs.getD i 0)) := by
  obtain ⟨ad', e, _, hc⟩ := h i hl
  injection e with e
  subst e
  exact hc
set_option maxRecDepth 100000 in
set_option maxHeartbeats 6400000 in
theorem edt_any (n : Nat) (h5 : n < 5) (a b : List Int) (A B : Option Addr) (ca cb i j : Nat) (w : World) (ha : Row .i64 w w.heap.size A a) (hb : Row .i64 w w.heap.size B b) (la : a.length ≤ 1000000000) (lb : b.length ≤ 1000000000) (hi : i ≤ 1000000000) (hj : j ≤ 1000000000) :
    Calls Tryd.prog 33 #[.slice A a.length ca, .slice B b.length cb, .int .i64 (i : Int), .int .i64 (j : Int), .int .i64 (n : Int)] w fun en w' => en = .returned (edV (i + dA n) (j + dB n) (dC n) (okP a b i j n)) ∧ ∃ m, w' = w.drewN m := by
  have H0 := Lib.hid (okP0 (a := a) (b := b) (i := i) (j := j))
  have H1 := Lib.hid (okP1 (a := a) (b := b) (i := i) (j := j))
  have H2 := Lib.hid (okP2 (a := a) (b := b) (i := i) (j := j))
  have H3 := Lib.hid (okP3 (a := a) (b := b) (i := i) (j := j))
  have H4 := Lib.hid (okP4 (a := a) (b := b) (i := i) (j := j))
  have HA := Lib.hid ha
  have HB := Lib.hid hb
  obtain ⟨La, hLa⟩ : ∃ La, La = a.length := ⟨_, rfl⟩
  obtain ⟨Lb, hLb⟩ : ∃ Lb, Lb = b.length := ⟨_, rfl⟩
  have HLa := Lib.hid hLa
  have HLb := Lib.hid hLb
  rw [← hLa] at la H0 H1 H2 H4 ⊢
  rw [← hLb] at lb H0 H1 H3 H4 ⊢
  clear ha hb hLa hLb
  have i0 : (0 : Int) ≤ (i : Int) := by omega
  have j0 : (0 : Int) ≤ (j : Int) := by omega
  have i1 : (0 : Int) ≤ (i : Int) + 1 := by omega
  have j1 : (0 : Int) ≤ (j : Int) + 1 := by omega
  have wi1 : IntKind.i64.wrap ((i : Int) + 1) = (i : Int) + 1 := IntWalk.i64_in _ (by omega)
  have wj1 : IntKind.i64.wrap ((j : Int) + 1) = (j : Int) + 1 := IntWalk.i64_in _ (by omega)
  have wi2 : IntKind.i64.wrap ((i : Int) + 2) = (i : Int) + 2 := IntWalk.i64_in _ (by omega)
  have wj2 : IntKind.i64.wrap ((j : Int) + 2) = (j : Int) + 2 := IntWalk.i64_in _ (by omega)
  have ti1 : ((i : Int) + 1).toNat = i + 1 := by omega
  have tj1 : ((j : Int) + 1).toNat = j + 1 := by omega
  have h5' : n = 0 ∨ n = 1 ∨ n = 2 ∨ n = 3 ∨ n = 4 := by omega
  rcases h5' with rfl | rfl | rfl | rfl | rfl
  · by_cases z1 : i < La
    · have z1' : (i : Int) < (La : Int) := by omega
      by_cases z2 : j < Lb
      · have z2' : (j : Int) < (Lb : Int) := by omega
        obtain ⟨ad, rfl, ca0⟩ := row_ci HA.out (i := i) (by rw [← HLa.out]; exact z1)
        obtain ⟨bd, rfl, cb0⟩ := row_ci HB.out (i := j) (by rw [← HLb.out]; exact z2)
        have HF := Lib.hid (show decide (a.getD i 0 = b.getD j 0) = okP a b i j 0 by rw [Bool.eq_iff_iff, H0.out, decide_eq_true_iff]; exact ⟨fun h => ⟨z1, z2, h⟩, fun h => h.2.2⟩)
        generalize a.getD i 0 = x at *
        generalize b.getD j 0 = y at *
        by_cases hxy : x = y
        · subst hxy
          simp only [ne_eq, not_true_eq_false, decide_true, decide_false] at HF
          go_enter Tryd.func33, Tryd.ntmps33
          go_wp2_with fail
          go_quiet (fail)
          go_wp2_with fail
          refine bodyPost_ret (results_tmp4 rfl _ _ _ _ _ _ rfl rfl rfl rfl) rfl ?_
          rw [← HF.out]
          exact ⟨rfl, _, rfl⟩
        · have hq : (x == y) = false := beq_eq_false_iff_ne.2 hxy
          have hq2 : (x != y) = true := by simp [bne, hq]
          rw [decide_eq_false hxy] at HF
          go_enter Tryd.func33, Tryd.ntmps33
          go_wp2_with fail
          go_quiet (fail)
          go_wp2_with fail
          refine bodyPost_ret (results_tmp4 rfl _ _ _ _ _ _ rfl rfl rfl rfl) rfl ?_
          rw [← HF.out]
          exact ⟨rfl, _, rfl⟩
      · have z2' : ¬ (j : Int) < (Lb : Int) := by omega
        have HF := Lib.hid (show false = okP a b i j 0 by rw [Bool.eq_iff_iff, H0.out]; exact ⟨fun h => (by cases h), fun h => absurd h.2.1 (by omega)⟩)
        go_enter Tryd.func33, Tryd.ntmps33
        go_wp2_with fail
        go_quiet (fail)
        go_wp2_with fail
        refine bodyPost_ret (results_tmp4 rfl _ _ _ _ _ _ rfl rfl rfl rfl) rfl ?_
        rw [← HF.out]
        exact ⟨rfl, _, rfl⟩
    · have z1' : ¬ (i : Int) < (La : Int) := by omega
      have HF := Lib.hid (show false = okP a b i j 0 by rw [Bool.eq_iff_iff, H0.out]; exact ⟨fun h => (by cases h), fun h => absurd h.1 (by omega)⟩)
      go_enter Tryd.func33, Tryd.ntmps33
      go_wp2_with fail
      go_quiet (fail)
      go_wp2_with fail
      refine bodyPost_ret (results_tmp4 rfl _ _ _ _ _ _ rfl rfl rfl rfl) rfl ?_
      rw [← HF.out]
      exact ⟨rfl, _, rfl⟩
  · by_cases z1 : i < La
    · have z1' : (i : Int) < (La : Int) := by omega
      by_cases z2 : j < Lb
      · have z2' : (j : Int) < (Lb : Int) := by omega
        obtain ⟨ad, rfl, ca0⟩ := row_ci HA.out (i := i) (by rw [← HLa.out]; exact z1)
        obtain ⟨bd, rfl, cb0⟩ := row_ci HB.out (i := j) (by rw [← HLb.out]; exact z2)
        have HF := Lib.hid (show decide (a.getD i 0 ≠ b.getD j 0) = okP a b i j 1 by rw [Bool.eq_iff_iff, H1.out, decide_eq_true_iff]; exact ⟨fun h => ⟨z1, z2, h⟩, fun h => h.2.2⟩)
        generalize a.getD i 0 = x at *
        generalize b.getD j 0 = y at *
        by_cases hxy : x = y
        · subst hxy
          simp only [ne_eq, not_true_eq_false, decide_true, decide_false] at HF
          go_enter Tryd.func33, Tryd.ntmps33
          go_wp2_with fail
          go_quiet (fail)
          go_wp2_with fail
          refine bodyPost_ret (results_tmp4 rfl _ _ _ _ _ _ rfl rfl rfl rfl) rfl ?_
          rw [← HF.out]
          exact ⟨rfl, _, rfl⟩
        · have hq : (x == y) = false := beq_eq_false_iff_ne.2 hxy
          have hq2 : (x != y) = true := by simp [bne, hq]
          rw [decide_eq_true hxy] at HF
          go_enter Tryd.func33, Tryd.ntmps33
          go_wp2_with fail
          go_quiet (fail)
          go_wp2_with fail
          refine bodyPost_ret (results_tmp4 rfl _ _ _ _ _ _ rfl rfl rfl rfl) rfl ?_
          rw [← HF.out]
          exact ⟨rfl, _, rfl⟩
      · have z2' : ¬ (j : Int) < (Lb : Int) := by omega
        have HF := Lib.hid (show false = okP a b i j 1 by rw [Bool.eq_iff_iff, H1.out]; exact ⟨fun h => (by cases h), fun h => absurd h.2.1 (by omega)⟩)
        go_enter Tryd.func33, Tryd.ntmps33
        go_wp2_with fail
        go_quiet (fail)
        go_wp2_with fail
        refine bodyPost_ret (results_tmp4 rfl _ _ _ _ _ _ rfl rfl rfl rfl) rfl ?_
        rw [← HF.out]
        exact ⟨rfl, _, rfl⟩
    · have z1' : ¬ (i : Int) < (La : Int) := by omega
      have HF := Lib.hid (show false = okP a b i j 1 by rw [Bool.eq_iff_iff, H1.out]; exact ⟨fun h => (by cases h), fun h => absurd h.1 (by omega)⟩)
      go_enter Tryd.func33, Tryd.ntmps33
      go_wp2_with fail
      go_quiet (fail)
      go_wp2_with fail
      refine bodyPost_ret (results_tmp4 rfl _ _ _ _ _ _ rfl rfl rfl rfl) rfl ?_
      rw [← HF.out]
      exact ⟨rfl, _, rfl⟩
  · by_cases z1 : i < La
    · have z1' : (i : Int) < (La : Int) := by omega
      have HF := Lib.hid (show true = okP a b i j 2 by rw [Bool.eq_iff_iff, H2.out]; exact ⟨fun _ => z1, fun _ => rfl⟩)
      go_enter Tryd.func33, Tryd.ntmps33
      go_wp2_with fail
      refine bodyPost_ret (results_tmp4 rfl _ _ _ _ _ _ rfl rfl rfl rfl) rfl ?_
      rw [← HF.out]
      exact ⟨rfl, 0, rfl⟩
    · have z1' : ¬ (i : Int) < (La : Int) := by omega
      have HF := Lib.hid (show false = okP a b i j 2 by rw [Bool.eq_iff_iff, H2.out]; exact ⟨fun h => (by cases h), fun h => absurd h (by omega)⟩)
      go_enter Tryd.func33, Tryd.ntmps33
      go_wp2_with fail
      refine bodyPost_ret (results_tmp4 rfl _ _ _ _ _ _ rfl rfl rfl rfl) rfl ?_
      rw [← HF.out]
      exact ⟨rfl, 0, rfl⟩
  · by_cases z2 : j < Lb
    · have z2' : (j : Int) < (Lb : Int) := by omega
      have HF := Lib.hid (show true = okP a b i j 3 by rw [Bool.eq_iff_iff, H3.out]; exact ⟨fun _ => z2, fun _ => rfl⟩)
      go_enter Tryd.func33, Tryd.ntmps33
      go_wp2_with fail
      refine bodyPost_ret (results_tmp4 rfl _ _ _ _ _ _ rfl rfl rfl rfl) rfl ?_
      rw [← HF.out]
      exact ⟨rfl, 0, rfl⟩
    · have z2' : ¬ (j : Int) < (Lb : Int) := by omega
      have HF := Lib.hid (show false = okP a b i j 3 by rw [Bool.eq_iff_iff, H3.out]; exact ⟨fun h => (by cases h), fun h => absurd h (by omega)⟩)
      go_enter Tryd.func33, Tryd.ntmps33
      go_wp2_with fail
      refine bodyPost_ret (results_tmp4 rfl _ _ _ _ _ _ rfl rfl rfl rfl) rfl ?_
      rw [← HF.out]
      exact ⟨rfl, 0, rfl⟩
  · by_cases z1 : i + 1 < La
    · have z1' : (i : Int) + 1 < (La : Int) := by omega
      have z1b : (i : Int) < (La : Int) := by omega
      by_cases z2 : j + 1 < Lb
      · have z2' : (j : Int) + 1 < (Lb : Int) := by omega
        have z2b : (j : Int) < (Lb : Int) := by omega
        obtain ⟨ad, rfl, ca0⟩ := row_ci HA.out (i := i) (by rw [← HLa.out]; omega)
        obtain ⟨bd, rfl, cb0⟩ := row_ci HB.out (i := j) (by rw [← HLb.out]; omega)
        have ca1 := row_cn HA.out (i := i + 1) (by rw [← HLa.out]; omega)
        have cb1 := row_cn HB.out (i := j + 1) (by rw [← HLb.out]; omega)
        rw [show ad.add (i + 1) = ⟨ad.block, ad.off + (i + 1), none⟩ from rfl] at ca1
        rw [show bd.add (j + 1) = ⟨bd.block, bd.off + (j + 1), none⟩ from rfl] at cb1
        have HF := Lib.hid (show (decide (a.getD i 0 = b.getD (j + 1) 0) && decide (a.getD (i + 1) 0 = b.getD j 0) && decide (a.getD i 0 ≠ a.getD (i + 1) 0)) = okP a b i j 4 by
          rw [Bool.eq_iff_iff, H4.out, Bool.and_eq_true, Bool.and_eq_true, decide_eq_true_iff, decide_eq_true_iff, decide_eq_true_iff]
          exact ⟨fun h => ⟨by omega, by omega, h.1.1, h.1.2, h.2⟩, fun h => ⟨⟨h.2.2.1, h.2.2.2.1⟩, h.2.2.2.2⟩⟩)
        generalize a.getD i 0 = x at *
        generalize b.getD j 0 = y at *
        generalize a.getD (i + 1) 0 = x1 at *
        generalize b.getD (j + 1) 0 = y1 at *
        by_cases g1 : x = y1
        · subst g1
          by_cases g2 : x1 = y
          · subst g2
            by_cases g3 : x = x1
            · subst g3
              simp only [ne_eq, not_true_eq_false, decide_true, decide_false, Bool.and_true, Bool.and_false, Bool.true_and, Bool.false_and] at HF
              go_enter Tryd.func33, Tryd.ntmps33
              go_wp2_with fail
              go_quiet (fail)
              go_wp2_with fail
              refine bodyPost_ret (results_tmp4 rfl _ _ _ _ _ _ rfl rfl rfl rfl) rfl ?_
              rw [← HF.out]
              exact ⟨rfl, _, rfl⟩
            · have hq : (x == x1) = false := beq_eq_false_iff_ne.2 g3
              have hq2 : (x != x1) = true := by simp [bne, hq]
              rw [decide_eq_true rfl, decide_eq_true rfl, decide_eq_true g3] at HF
              simp only [Bool.and_true] at HF
              go_enter Tryd.func33, Tryd.ntmps33
              go_wp2_with fail
              go_quiet (fail)
              go_wp2_with fail
              refine bodyPost_ret (results_tmp4 rfl _ _ _ _ _ _ rfl rfl rfl rfl) rfl ?_
              rw [← HF.out]
              exact ⟨rfl, _, rfl⟩
          · have hq : (x1 == y) = false := beq_eq_false_iff_ne.2 g2
            rw [decide_eq_true rfl, decide_eq_false g2] at HF
            simp only [Bool.and_true, Bool.and_false, Bool.true_and, Bool.false_and] at HF
            go_enter Tryd.func33, Tryd.ntmps33
            go_wp2_with fail
            go_quiet (fail)
            go_wp2_with fail
            refine bodyPost_ret (results_tmp4 rfl _ _ _ _ _ _ rfl rfl rfl rfl) rfl ?_
            rw [← HF.out]
            exact ⟨rfl, _, rfl⟩
        · have hq : (x == y1) = false := beq_eq_false_iff_ne.2 g1
          rw [decide_eq_false g1] at HF
          simp only [Bool.and_true, Bool.and_false, Bool.true_and, Bool.false_and] at HF
          go_enter Tryd.func33, Tryd.ntmps33
          go_wp2_with fail
          go_quiet (fail)
          go_wp2_with fail
          refine bodyPost_ret (results_tmp4 rfl _ _ _ _ _ _ rfl rfl rfl rfl) rfl ?_
          rw [← HF.out]
          exact ⟨rfl, _, rfl⟩
      · have z2' : ¬ (j : Int) + 1 < (Lb : Int) := by omega
        have z2d : decide ((j : Int) + 1 < (Lb : Int)) = false := decide_eq_false z2'
        have HF := Lib.hid (show false = okP a b i j 4 by rw [Bool.eq_iff_iff, H4.out]; exact ⟨fun h => (by cases h), fun h => absurd h.2.1 (by omega)⟩)
        go_enter Tryd.func33, Tryd.ntmps33
        go_wp2_with fail
        go_quiet (fail)
        go_wp2_with fail
        refine bodyPost_ret (results_tmp4 rfl _ _ _ _ _ _ rfl rfl rfl rfl) rfl ?_
        rw [← HF.out]
        exact ⟨rfl, _, rfl⟩
    · have z1' : ¬ (i : Int) + 1 < (La : Int) := by omega
      have z1d : decide ((i : Int) + 1 < (La : Int)) = false := decide_eq_false z1'
      have HF := Lib.hid (show false = okP a b i j 4 by rw [Bool.eq_iff_iff, H4.out]; exact ⟨fun h => (by cases h), fun h => absurd h.1 (by omega)⟩)
      go_enter Tryd.func33, Tryd.ntmps33
      go_wp2_with fail
      go_quiet (fail)
      go_wp2_with fail
      refine bodyPost_ret (results_tmp4 rfl _ _ _ _ _ _ rfl rfl rfl rfl) rfl ?_
      rw [← HF.out]
      exact ⟨rfl, _, rfl⟩
set_option maxHeartbeats 1600000 in
theorem edt_no (e : Int) (he : ¬ (0 ≤ e ∧ e < 5)) (A B : Option Addr) (la lb ca cb i j : Nat) (w : World) :
    Calls Tryd.prog 33 #[.slice A la ca, .slice B lb cb, .int .i64 (i : Int), .int .i64 (j : Int), .int .i64 e] w fun en w' => en = .returned (.tuple #[.int .i64 0, .int .i64 0, .int .i64 0, .bool false]) ∧ w = w' := by
  have e0 : (e == 0) = false := beq_eq_false_iff_ne.2 (by omega)
  have e1 : (e == 1) = false := beq_eq_false_iff_ne.2 (by omega)
  have e2 : (e == 2) = false := beq_eq_false_iff_ne.2 (by omega)
  have e3 : (e == 3) = false := beq_eq_false_iff_ne.2 (by omega)
  have e4 : (e == 4) = false := beq_eq_false_iff_ne.2 (by omega)
  go_enter Tryd.func33, Tryd.ntmps33
  go_wp2_with fail
  refine bodyPost_ret (results_tmp4 rfl _ _ _ _ _ _ rfl rfl rfl rfl) rfl ?_
  exact ⟨rfl, rfl⟩
theorem rlong_any (A B : Option Addr) (la ca lb cb : Nat) (w : World) (ha : la ≤ 1000000000) (hb : lb ≤ 1000000000) :
    Calls Tryd.prog 31 #[.slice A la ca, .slice B lb cb] w fun e w' => e = .returned (.bool (decide (96 < la ∨ 96 < lb))) ∧ w = w' := by
  by_cases h1 : 96 < la
  · rw [decide_eq_true (Or.inl h1)]
    have g1 : (96 : Int) < (la : Int) := by omega
    go_enter Tryd.func31, Tryd.ntmps31
    go_wp2_with fail
    go_ret
    exact ⟨rfl, rfl⟩
  · have g1 : ¬ (96 : Int) < (la : Int) := by omega
    by_cases h2 : 96 < lb
    · rw [decide_eq_true (Or.inr h2)]
      have g2 : (96 : Int) < (lb : Int) := by omega
      go_enter Tryd.func31, Tryd.ntmps31
      go_wp2_with fail
      go_ret
      exact ⟨by simp [g2], rfl⟩
    · rw [decide_eq_false (by omega)]
      have g2 : ¬ (96 : Int) < (lb : Int) := by omega
      go_enter Tryd.func31, Tryd.ntmps31
      go_wp2_with fail
      go_ret
      exact ⟨by simp [g2], rfl⟩
end Go.Proofs.YtbdiilkdajadcaaDoor
