/-
  Stage 8: the laws' lists.
-/
import Derived.Test.YtbdiilkdajadcaaDoorWApp
import Derived.Test.YtbdiilkdajadcaaDoorMaker
import Derived.Test.YtbdiilkdajadcaaDoorRCost
set_option linter.unusedSimpArgs false
set_option linter.unusedVariables false
namespace Go.Proofs.YtbdiilkdajadcaaDoor
open Go.RowKit

/-- What an append of numbers leaves. -/
def AppN (base : Nat) (v : Value) (zs ys : List Int) (W : World) (v' : Value) (w' : World) : Prop :=
  Own .i64 3 w' base v' (zs ++ ys) ∧ W.grownBy w' v.ownBlock ∧ ∃ g c, v' = .slice (some ⟨g, 0, none⟩) (zs.length + ys.length) c ∧ g < w'.heap.size ∧ (v.ownBlock = some g ∨ g = W.heap.size)
theorem AppI.appN {base : Nat} {v v' : Value} {zs : List Int} {y : Int} {W w' : World} (h : AppI base v zs y W v' w') : AppN base v zs [y] W v' w' := h
theorem news_two {w0 : World} {y z : Int} : ∀ j u, ([y, z].map (Value.int .i64))[j]? = some u → (w0.alloc (.cells #[.int .i64 y, .int .i64 z] 3)).cell? ((⟨w0.heap.size, 0, none⟩ : Addr).add j) = some u := news_int (k := .i64) (W := w0) (T := 3) (ys := [y, z])
theorem step_appI2 (W : World) {ops : Array Oper} {o : Oper} {a : Act} {K : Act → World → Prop} {Q : Exit → Act → World → Prop} {E : Prop} (hgd : o.guard = none) (s x : Operand)
    (ho : o.op = .call { callee := .builtin .append, args := #[s, x], argTypes := #[22, 22] }) (base : Nat) (v : Value) (zs : List Int) (hs : a.eval s = v) (O : Own .i64 3 W base v zs)
    (y z : Int) (w0 : World) (hW : W = w0.alloc (.cells #[.int .i64 y, .int .i64 z] 3)) (b : Nat) (hz : w0.heap.size = b) (c : Nat) (hx : a.eval x = .slice (some ⟨b, 0, none⟩) 2 c)
    (hl : zs.length + 2 ≤ 1000000000) (hb : base ≤ W.heap.size)
    (h : ∀ v' w', AppN base v zs [y, z] W v' w' → K (a.put o.dst v') w') : if Region.wanted o (yielded ops a.tmps) = true then Oper.wp Tryd.prog o a W K Q else E := by
  obtain ⟨i0, hi, hz0, hz1, hz2⟩ := info_parts infoIntW
  subst hz
  refine step_append_lies W hgd s x 22 ho base 3 i0 (.int .i64 0) 1 8 Tryd.underlying22 hi hz0 hz1 hz2 rfl (by decide) v zs.length (zs.map (Value.int .i64)) hs O ⟨w0.heap.size, 0, none⟩ 2 c ([y, z].map (Value.int .i64)) hx rfl (by rw [hW]; exact news_two) (one_cells (ys := [y, z])) (by decide) (by unfold maxLen; omega) (by omega) hb W.heap.size rfl ?_
  intro g cap w1 hown hg hat hlt
  exact h _ w1 ⟨Own.app (zs := zs) (ys := [y, z]) hown rfl rfl, hg, g, cap, rfl, hlt, hat⟩
/-- Two lists of the call's own that share nothing. -/
abbrev Apart (u v : Value) : Prop := u.ownBlock = none ∨ u.ownBlock ≠ v.ownBlock
theorem AppN.other {base : Nat} {v v' u : Value} {zs ys xs : List Int} {W w' : World} (A : AppN base v zs ys W v' w') (U : Own .i64 3 W base u xs) (h : Apart u v) : Own .i64 3 w' base u xs ∧ Apart u v' := by
  obtain ⟨_, hg, g, c, rfl, hlt, hat⟩ := A
  refine ⟨U.kept hg h, ?_⟩
  rcases h with h | h
  · exact Or.inl h
  · refine Or.inr (fun e => ?_)
    have e' : u.ownBlock = some g := by rw [e]; rfl
    rcases hat with hat | hat
    · exact h (by rw [e', hat])
    · have := (own_block U e').2; omega
theorem AppN.moves {m base : Nat} {v v' : Value} {zs ys : List Int} {w W w' : World} (A : AppN base v zs ys W v' w') (h : Moves m w W) (O : Own .i64 3 W base v zs) (hb : w.heap.size ≤ base) : Moves m w w' :=
  h.grown A.2.1 (fun k e => Nat.le_trans hb (own_block O e).1)
theorem AppN.mk {m N base : Nat} {v v' : Value} {zs ys : List Int} {W w' : World} (A : AppN base v zs ys W v' w') (h : IsMk W m N) (O : Own .i64 3 W base v zs) (hb : m < base) : IsMk w' m N :=
  h.grown A.2.1 (fun k e => Nat.lt_of_lt_of_le hb (own_block O e).1)
/-- What lists leaves. -/
def ListsPost (m N n : Nat) (w : World) (e : Ending) (w' : World) : Prop :=
  ∃ vx vy xs ys, e = .returned (.tuple #[vx, vy]) ∧ Own .i64 3 w' w.heap.size vx xs ∧ Own .i64 3 w' w.heap.size vy ys ∧ xs.length ≤ n ∧ ys.length ≤ 2 * n ∧ IsMk w' m (N + 1 + 3 * n) ∧ Moves m w w'

set_option maxRecDepth 100000 in
set_option maxHeartbeats 12800000 in
theorem lists_any (m N n : Nat) (w : World) (h : IsMk w m N) (hN : N ≤ 1000000) (hn : n ≤ 100) :
    Calls Tryd.prog 14 #[.pointer (some ⟨m, 0, none⟩), .int .i64 (n : Int)] w (ListsPost m N n w) := by
  have HK := Lib.hid h
  have hm := h.lt
  clear h
  have wn : IntKind.i64.wrap ((n : Int) + 1) = (n : Int) + 1 := IntWalk.i64_in _ (by omega)
  go_enter Tryd.func14, Tryd.ntmps14
  go_wp2_with fail
  refine (next_any m N ((n : Int) + 1) _ HK.out (by omega) (by omega) (by omega)).mono ?_
  rintro e w1 ⟨q, rfl, q1, q2, k1, m1⟩
  obtain ⟨Q, rfl⟩ := Int.eq_ofNat_of_zero_le q1
  have HK1 := Lib.hid k1
  have HM1 := Lib.hid m1
  have hQ : Q ≤ n := by omega
  clear q1 q2 k1 m1 HK wn
  go_wp2_with fail
  go_loopw [6, 8] (fun v i wr => ∃ (j : Nat) (xs : List Int), i = .int .i64 (j : Int) ∧ xs.length + j ≤ n ∧ Hid (Own .i64 3 wr w.heap.size v xs) ∧ Hid (IsMk wr m (N + 1 + xs.length)) ∧ Hid (Moves m w wr)) (fun _ i _ => (intOf i).toNat)
  case atStart => exact ⟨Q, [], rfl, by simpa using hQ, Lib.hid Own.nil, HK1, HM1⟩
  case round =>
    clear HK1 HM1 hQ
    obtain ⟨j, xs, rfl, hj, O, K, B⟩ := hrel
    by_cases hj0 : 0 < j
    · have hj1 : (0 : Int) < (j : Int) := by omega
      obtain ⟨Y, hY⟩ : ∃ Y, Y = xs.length := ⟨_, rfl⟩
      have HY := Lib.hid hY
      rw [← hY] at hj K
      clear hY
      go_wp2_with fail
      refine (next_any m (N + 1 + Y) 4 _ K.out (by omega) (by decide) (by decide)).mono ?_
      rintro e w2 ⟨y, rfl, y1, y2, k2, m2⟩
      have O2 := Lib.hid (O.out.moves m2 hm)
      have K2 := Lib.hid k2
      have B2 := Lib.hid (B.out.trans m2)
      have HS2 := Lib.hid (show w.heap.size ≤ w2.heap.size from B2.out.size)
      have HLEN := Lib.hid (show xs.length + 1 ≤ 1000000000 by rw [← HY.out]; omega)
      clear k2 m2 O K B
      go_wp2_with (first
        | (at_builtin; refine wpList_appI _ rfl (.tmp 18) (.tmp 21) rfl w.heap.size _ xs rfl (O2.out.alloc _) y w2 rfl _ rfl 1 rfl HLEN.out (le_allocW HS2.out) ?_; intro v3 w3 A3; have A3 := AppI.appN A3; have O3 := Lib.hid A3.1; have K3 := Lib.hid (A3.mk (K2.out.alloc _) (O2.out.alloc _) hm); have B3 := Lib.hid (A3.moves (B2.out.alloc _) (O2.out.alloc _) (Nat.le_refl _)); clear A3))
      clear O2 K2 B2 HS2
      go_roundw
      case rel => exact ⟨j - 1, xs ++ [y], by congr 1; omega, by rw [List.length_append, ← HY.out]; simp; omega, O3, Lib.hid (by rw [List.length_append, ← HY.out]; exact K3.out), B3⟩
      case measure => simp [intOf] <;> omega
    · have ej : (j : Int) = 0 := by omega
      rw [ej]
      obtain ⟨AX, cX, rfl, RX, hcX, hmX, hgX⟩ := O.out.slice
      have HOX := Lib.hid O.out
      have HGX := Lib.hid hgX
      have hxn : xs.length ≤ n := by omega
      obtain ⟨X, hX⟩ : ∃ X, X = xs.length := ⟨_, rfl⟩
      have HX := Lib.hid hX
      rw [← hX] at K hxn HOX HGX ⊢
      clear O RX hj hX hj0 ej hcX hmX hgX
      generalize wr = wx at *
      have HSX := Lib.hid (show w.heap.size ≤ wx.heap.size from B.out.size)
      go_wp2_with fail
      go_loopw [7, 9] (fun v i wr => ∃ (k : Nat) (ys : List Int), i = .int .i64 (k : Int) ∧ k ≤ X ∧ ys.length ≤ 2 * k ∧ Hid (Own .i64 3 wr w.heap.size v ys) ∧ Hid (Own .i64 3 wr w.heap.size (.slice AX X cX) xs ∧ Apart (.slice AX X cX) v) ∧ Hid (IsMk wr m (N + 1 + X + 2 * k)) ∧ Hid (Moves m w wr)) (fun _ i _ => X - (intOf i).toNat)
      case atStart => exact ⟨0, [], rfl, by omega, by simp, Lib.hid Own.nil, Lib.hid ⟨HOX.out, (Classical.em _).imp id (fun h => h)⟩, K, B⟩
      case round =>
        clear K B HOX HSX
        obtain ⟨k, ys, rfl, hk, hys, O, OX, K, B⟩ := hrel
        by_cases hkX : k < X
        · obtain ⟨g, rfl, hg1⟩ := HGX.out (by omega)
          have hk0 : (k : Int) < (X : Int) := by omega
          obtain ⟨x, hx⟩ : ∃ x, x = xs.getD k 0 := ⟨_, rfl⟩
          have kn : (k : Int).toNat = k := by omega
          have kp : (0 : Int) ≤ (k : Int) := by omega
          have wk1 : IntKind.i64.wrap ((k : Int) + 1) = (k : Int) + 1 := IntWalk.i64_in _ (by omega)
          have HCX := Lib.hid (show ∀ W v, Own .i64 3 W w.heap.size (.slice (some ⟨g, 0, none⟩) X cX) xs ∧ Apart (.slice (some ⟨g, 0, none⟩) X cX) v → W.cell? ⟨g, k, none⟩ = some (.int .i64 x) from fun W v h => by rw [hx]; exact h.1.cell HX.out k (by rw [← HX.out]; exact hkX))
          have HCY := Lib.hid (show k + 1 < X → ∀ W v, Own .i64 3 W w.heap.size (.slice (some ⟨g, 0, none⟩) X cX) xs ∧ Apart (.slice (some ⟨g, 0, none⟩) X cX) v → W.cell? ⟨g, k + 1, none⟩ = some (.int .i64 (xs.getD (k + 1) 0)) from fun hk W v h => h.1.cell HX.out (k + 1) (by rw [← HX.out]; exact hk))
          obtain ⟨Y, hY⟩ : ∃ Y, Y = ys.length := ⟨_, rfl⟩
          have HY := Lib.hid hY
          rw [← hY] at hys
          have HLEN := Lib.hid (show ys.length + 2 ≤ 1000000000 by rw [← HY.out]; omega)
          clear hY hx
          go_wp2_with fail
          refine (next_any m (N + 1 + X + 2 * k) 9 _ K.out (by omega) (by decide) (by decide)).mono ?_
          rintro e w2 ⟨q, rfl, q1, q2, k2, m2⟩
          have O2 := Lib.hid (O.out.moves m2 hm)
          have X2 := Lib.hid (And.intro (OX.out.1.moves m2 hm) OX.out.2)
          have K2 := Lib.hid k2
          have B2 := Lib.hid (B.out.trans m2)
          have HS2 := Lib.hid (show w.heap.size ≤ w2.heap.size from B2.out.size)
          clear k2 m2 O OX K B
          have c2 := HCX.out _ _ X2.out
          have hq : q = 0 ∨ q = 1 ∨ q = 2 ∨ q = 3 ∨ 4 ≤ q := by omega
          rcases hq with rfl | rfl | rfl | rfl | hq4
          · clear q1 q2
            go_wp2_with fail
            go_roundw
            case rel => exact ⟨k + 1, ys, by go_num, by omega, by rw [← HY.out]; omega, O2, X2, Lib.hid (K2.out.more (by omega)), B2⟩
            case measure => simp [intOf] <;> omega
          · clear q1 q2
            go_upto_region 13 with fail
            go_region_law (first
              | (go_simp; go_at_call 20; refine (next_any m (N + 1 + X + 2 * k + 1) 4 w2.drew (K2.out.drewN (n := 1)) (by omega) (by decide) (by decide)).mono ?_; rintro e w3 ⟨z, rfl, z1, z2, k3, m3⟩; have O3 := Lib.hid ((O2.out.drewN 1).moves m3 hm); have X3 := Lib.hid (And.intro ((X2.out.1.drewN 1).moves m3 hm) X2.out.2); have K3 := Lib.hid k3; have B3 := Lib.hid ((B2.out.drewN (n := 1)).trans m3); have HS3 := Lib.hid (show w.heap.size ≤ w3.heap.size from B3.out.size); have c3 := HCX.out _ _ X3.out; clear k3 m3)
              | (refine step_appI2 _ rfl (.tmp 42) (.tmp 49) rfl w.heap.size _ ys rfl (O3.out.alloc _) x z w3 rfl _ rfl 2 rfl HLEN.out (le_allocW HS3.out) ?_; intro v4 w4 A4; have O4 := Lib.hid A4.1; have X4 := Lib.hid (A4.other (X3.out.1.alloc _) X3.out.2); have K4 := Lib.hid (A4.mk (K3.out.alloc _) (O3.out.alloc _) hm); have B4 := Lib.hid (A4.moves (B3.out.alloc _) (O3.out.alloc _) (Nat.le_refl _)); clear A4))
            all_goals
              clear c2 c3 O2 X2 K2 B2 HS2 O3 X3 K3 B3 HS3
              go_wp2_with fail
              go_roundw
              case rel => exact ⟨k + 1, ys ++ [x, z], by go_num, by omega, by rw [List.length_append, ← HY.out]; simp; omega, O4, X4, Lib.hid (K4.out.more (by omega)), B4⟩
              case measure => simp [intOf] <;> omega
          · clear q1 q2
            go_wp2_with fail
            refine (next_any m (N + 1 + X + 2 * k + 1) 4 _ K2.out (by omega) (by decide) (by decide)).mono ?_
            rintro e w3 ⟨z, rfl, z1, z2, k3, m3⟩
            have O3 := Lib.hid (O2.out.moves m3 hm)
            have X3 := Lib.hid (And.intro (X2.out.1.moves m3 hm) X2.out.2)
            have K3 := Lib.hid k3
            have B3 := Lib.hid (B2.out.trans m3)
            have HS3 := Lib.hid (show w.heap.size ≤ w3.heap.size from B3.out.size)
            have HLEN1 := Lib.hid (show ys.length + 1 ≤ 1000000000 by have := HLEN.out; omega)
            clear k3 m3 c2 O2 X2 K2 B2 HS2
            go_wp2_with (first
              | (at_builtin; refine wpList_appI _ rfl (.tmp 53) (.tmp 56) rfl w.heap.size _ ys rfl (O3.out.alloc _) z w3 rfl _ rfl 1 rfl HLEN1.out (le_allocW HS3.out) ?_; intro v4 w4 A4; have A4 := AppI.appN A4; have O4 := Lib.hid A4.1; have X4 := Lib.hid (A4.other (X3.out.1.alloc _) X3.out.2); have K4 := Lib.hid (A4.mk (K3.out.alloc _) (O3.out.alloc _) hm); have B4 := Lib.hid (A4.moves (B3.out.alloc _) (O3.out.alloc _) (Nat.le_refl _)); clear A4))
            clear O3 X3 K3 B3 HS3
            go_roundw
            case rel => exact ⟨k + 1, ys ++ [z], by go_num, by omega, by rw [List.length_append, ← HY.out]; simp; omega, O4, X4, Lib.hid (K4.out.more (by omega)), B4⟩
            case measure => simp [intOf] <;> omega
          · clear q1 q2
            by_cases hk1 : k + 1 < X
            · have hk1' : (k : Int) + 1 < (X : Int) := by omega
              have c2' := HCY.out hk1 _ _ X2.out
              have kn1 : ((k : Int) + 1).toNat = k + 1 := by omega
              have kp1 : (0 : Int) ≤ (k : Int) + 1 := by omega
              have wk2 : IntKind.i64.wrap ((k : Int) + 1 + 1) = (k : Int) + 1 + 1 := IntWalk.i64_in _ (by omega)
              generalize xs.getD (k + 1) 0 = x' at *
              go_upto_region 18 with fail
              go_region_law (refine step_appI2 _ rfl (.tmp 65) (.tmp 75) rfl w.heap.size _ ys rfl ((O2.out.drewN 1).alloc _) x' x w2.drew rfl _ rfl 2 rfl HLEN.out (le_allocW (w := w2) HS2.out) ?_; intro v4 w4 A4; have O4 := Lib.hid A4.1; have X4 := Lib.hid (A4.other ((X2.out.1.drewN 1).alloc _) X2.out.2); have K4 := Lib.hid (A4.mk ((K2.out.drewN (n := 1)).alloc _) ((O2.out.drewN 1).alloc _) hm); have B4 := Lib.hid (A4.moves ((B2.out.drewN (n := 1)).alloc _) ((O2.out.drewN 1).alloc _) (Nat.le_refl _)); clear A4)
              all_goals
                clear c2 c2' O2 X2 K2 B2 HS2
                go_wp2_with fail
                go_roundw
                case rel => exact ⟨k + 2, ys ++ [x', x], by go_num, by omega, by rw [List.length_append, ← HY.out]; simp; omega, O4, X4, Lib.hid (K4.out.more (by omega)), B4⟩
                case measure => simp [intOf] <;> omega
            · have hk1' : ¬ (k : Int) + 1 < (X : Int) := by omega
              go_wp2_with fail
              go_roundw
              case rel => exact ⟨k + 1, ys, by go_num, by omega, by rw [← HY.out]; omega, O2, X2, Lib.hid (K2.out.more (by omega)), B2⟩
              case measure => simp [intOf] <;> omega
          · have g0 : (q == 0) = false := beq_eq_false_iff_ne.2 (by omega)
            have g1 : (q == 1) = false := beq_eq_false_iff_ne.2 (by omega)
            have g2 : (q == 2) = false := beq_eq_false_iff_ne.2 (by omega)
            have g3 : (q == 3) = false := beq_eq_false_iff_ne.2 (by omega)
            have HLEN1 := Lib.hid (show ys.length + 1 ≤ 1000000000 by have := HLEN.out; omega)
            clear q1 q2 hq4
            go_wp2_with (first
              | (at_builtin; refine wpList_appI _ rfl (.tmp 31) (.tmp 36) rfl w.heap.size _ ys rfl (O2.out.alloc _) x w2 rfl _ rfl 1 rfl HLEN1.out (le_allocW HS2.out) ?_; intro v4 w4 A4; have A4 := AppI.appN A4; have O4 := Lib.hid A4.1; have X4 := Lib.hid (A4.other (X2.out.1.alloc _) X2.out.2); have K4 := Lib.hid (A4.mk (K2.out.alloc _) (O2.out.alloc _) hm); have B4 := Lib.hid (A4.moves (B2.out.alloc _) (O2.out.alloc _) (Nat.le_refl _)); clear A4))
            clear c2 O2 X2 K2 B2 HS2
            go_roundw
            case rel => exact ⟨k + 1, ys ++ [x], by go_num, by omega, by rw [List.length_append, ← HY.out]; simp; omega, O4, X4, Lib.hid (K4.out.more (by omega)), B4⟩
            case measure => simp [intOf] <;> omega
        · obtain rfl : k = X := by omega
          have HF := Lib.hid (show ∀ v, ListsPost m N n w (.returned (.tuple #[.slice AX k cX, v])) wr ↔ ListsPost m N n w (.returned (.tuple #[.slice AX k cX, v])) wr from fun _ => Iff.rfl)
          have hk0 : ¬ (k : Int) < (k : Int) := by omega
          go_wp2_with fail
          refine bodyPost_ret (results_tmp2R rfl _ _ _ _ rfl rfl) rfl ?_
          exact ⟨_, _, xs, ys, rfl, OX.out.1, O.out, by rw [← HX.out]; exact hxn, by omega, K.out.more (by omega), B.out⟩
end Go.Proofs.YtbdiilkdajadcaaDoor
