/-
  Stage 7: the walk of WheelRecognizes.
-/
import Derived.Test.YtgiodpepjajlmaaWRecz
import Derived.Test.YtgiodpepjajlmaaWPat
import Derived.Test.YtgiodpepjajlmaaCMkW
set_option linter.unusedSimpArgs false
set_option linter.unusedVariables false
namespace Go.Proofs.Ytgiodpepjajlmaa
open Go.RowKit

theorem AppS.other {base base' : Nat} {v v' u : Value} {ds : List Dsc} {y : Dsc} {w w' : World} {o : Obj} {xs : List Int} (A : AppS base v ds y (w.alloc o) v' w') (O : Own .i64 3 w base' u xs) (h : Apart2 v u) : Own .i64 3 w' base' u xs ∧ Apart2 v' u := by
  obtain ⟨_, hg, g, c, rfl, hlt, hat⟩ := A
  refine ⟨(O.alloc o).kept hg ?_, fun g' hg' e => ?_⟩
  · cases hu : u.ownBlock with
    | none => exact Or.inl rfl
    | some b => exact Or.inr (fun e => h b e.symm hu)
  · have e1 : g = g' := by simpa [Value.ownBlock] using hg'
    subst e1
    rcases hat with hat | hat
    · exact h g hat e
    · have h1 := (own_block O e).2
      simp at hat
      omega
theorem own_capZ {w : World} {base : Nat} {A : Option Addr} {n c : Nat} {zs : List Int} (h : Own .i64 3 w base (.slice A n c) zs) : zs.length ≤ c := by
  obtain ⟨A', c', e, R, h1, h2, h3⟩ := h.slice
  injection e with _ _ e; subst e; omega
set_option maxRecDepth 100000 in
set_option maxHeartbeats 6400000 in
theorem reco_walk (a : Option Addr) (len cap : Nat) (zs : List Int) (A1 : Option Addr) (c1 : Nat) (d : List Int) (A2 : Option Addr) (c2 : Nat) (ps : List (List Int)) (tol : Int) (w : World) (h : IsRow .i64 w a len cap zs)
    (hd : Row .i64 w w.heap.size A1 d) (hl : d.length ≤ maxLen) (hcap : d.length ≤ c1) (h2 : PP w A2 ps) (hl2 : ps.length ≤ maxLen) :
    Calls Try.prog 7 #[.slice a len cap, .slice A1 d.length c1, .slice A2 ps.length c2, .int .i64 tol] w fun e w' => e = .returned (.bool true) ∧ Below w.heap.size w w' := by
  have HK0 := Lib.hid (mk_new (T := 59) h)
  have HB0 := Lib.hid (box1W w (.cells #[.slice a len cap, .int .i64 0] 59))
  have HZ := Lib.hid (fun (tol : Int) (w1 : World) (b : Below w.heap.size w w1) => recz_any d ps tol A1 A2 c1 c2 w1 (hd.below b) hl hcap (h2.below b) hl2)
  unfold maxLen at hl hl2
  obtain ⟨L, hL⟩ : ∃ n, n = d.length := ⟨_, rfl⟩
  obtain ⟨M, hM⟩ : ∃ n, n = ps.length := ⟨_, rfl⟩
  rw [← hL, ← hM] at HZ
  rw [← hL] at hl hcap ⊢
  rw [← hM] at hl2 ⊢
  clear h hd h2 hL hM
  go_enter Try.func7, Try.ntmps7
  go_wp2_with fail
  refine (new_any a len cap w).mono ?_
  rintro e w1 ⟨rfl, rfl⟩
  go_wp2_with fail
  go_loopw [10] (fun i wr => ∃ I : Nat, I ≤ 5 ∧ i = .int .i64 I ∧ Hid (IsMk wr w.heap.size (0 + 60 * I)) ∧ Hid (Below w.heap.size w wr)) (fun i _ => 5 - (intOf i).toNat)
  case atStart => exact ⟨0, by omega, rfl, HK0, HB0⟩
  case round =>
    clear HK0 HB0
    obtain ⟨I, hI, rfl, HK, HB⟩ := hrel
    by_cases hlt : I < 5
    · go_wp2_with fail
      refine (next_any w.heap.size (0 + 60 * I) 9 _ HK.out (by omega) (by decide) (by decide)).mono ?_
      rintro e w2 ⟨n0, rfl, n1, n2, k2, m2⟩
      obtain ⟨N9, rfl⟩ := Int.eq_ofNat_of_zero_le n1
      have hn9 : N9 ≤ 8 := by omega
      have HK2 := Lib.hid k2
      have HB2 := Lib.hid (Moves.below HB.out m2 (Nat.le_refl _) HB.out.size)
      clear n1 n2 k2 m2 HK HB
      generalize wr = wo at *
      go_wp2_with fail
      go_loopw [11, 12] (fun v i wr => ∃ (j : Nat) (xs : List Int), i = .int .i64 (j : Int) ∧ xs.length + j ≤ 8 ∧ Hid (Own .i64 3 wr (w.heap.size + 1) v xs) ∧ Hid (IsMk wr w.heap.size (0 + 60 * I + 1 + 2 * xs.length)) ∧ Hid (Below w.heap.size w wr)) (fun _ i _ => (intOf i).toNat)
      case atStart => exact ⟨N9, [], rfl, by simpa using hn9, Lib.hid Own.nil, HK2, HB2⟩
      case round =>
        clear HK2 HB2
        obtain ⟨j, xs, rfl, hj, O, HK, HB⟩ := hrel
        by_cases hj0 : 0 < j
        · have hj1 : (0 : Int) < (j : Int) := by omega
          obtain ⟨Y, hY⟩ : ∃ Y, Y = xs.length := ⟨_, rfl⟩
          have HY := Lib.hid hY
          rw [← hY] at hj HK
          clear hY
          go_wp2_with fail
          refine (pick_any w.heap.size (0 + 60 * I + 1 + 2 * Y) (fun z => 0 ≤ z ∧ z ≤ 10000) _ 8 8 _ (HK.out.alloc _) (by omega) (by omega) (by omega) (by have := HK.out.lt; omega) (by simp) (by exact new_pick _ _ (fun z => 0 ≤ z ∧ z ≤ 10000) [1, 2, 3, 3, 4, 5, 10000, 0] (by decide) _ rfl)).mono ?_
          rintro e w5 ⟨x, rfl, ⟨x0, x1⟩, k5, m5⟩
          have HK5 := Lib.hid k5
          have HB5 := Lib.hid (Moves.below (HB.out.alloc HB.out.size _) m5 (Nat.le_refl _) (le_allocW HB.out.size))
          have O5 := Lib.hid ((O.out.alloc _).moves m5 (Nat.lt_succ_self _))
          clear k5 m5 O HK HB
          go_wp2_with fail
          refine (pick_any w.heap.size (0 + 60 * I + 1 + 2 * Y + 1) (fun z => z = 1 ∨ z = 2) _ 4 4 _ (HK5.out.alloc _) (by omega) (by omega) (by omega) (by have := HK5.out.lt; omega) (by simp) (by exact new_pick _ _ (fun z => z = 1 ∨ z = 2) [1, 1, 1, 2] (by decide) _ rfl)).mono ?_
          rintro e w6 ⟨y, rfl, hy, k6, m6⟩
          have HK6 := Lib.hid k6
          have HB6 := Lib.hid (Moves.below (HB5.out.alloc HB5.out.size _) m6 (Nat.le_refl _) (le_allocW HB5.out.size))
          have O6 := Lib.hid ((O5.out.alloc _).moves m6 (Nat.lt_succ_self _))
          have HS6 := Lib.hid (show w.heap.size + 1 ≤ w6.heap.size from HK6.out.lt)
          have HLEN := Lib.hid (show xs.length + 1 ≤ 1000000000 by rw [← HY.out]; omega)
          clear k6 m6 O5 HK5 HB5
          rcases hy with rfl | rfl
          all_goals
            go_wp2_with (first
              | (at_builtin; refine wpList_appI _ rfl (.tmp 29) (.tmp 37) rfl (w.heap.size + 1) _ xs rfl (O6.out.alloc _) _ w6 rfl _ rfl 1 rfl HLEN.out (le_allocW HS6.out) ?_; intro v7 w7 A7; have O7 := Lib.hid A7.1; have HK7 := Lib.hid (IsMk.grown (HK6.out.alloc _) A7.2.1 (fun k e => (own_block O6.out e).1)); have HB7 := Lib.hid ((HB6.out.alloc HB6.out.size _).grown A7.2.1 (le_allocW HB6.out.size) (fun k e => Nat.le_of_succ_le (own_block O6.out e).1)); clear A7))
            clear O6 HK6 HB6
            go_roundw
            case rel => exact ⟨j - 1, xs ++ [_], by congr 1; omega, by rw [List.length_append, ← HY.out]; simp; omega, O7, Lib.hid (HK7.out.more (by rw [List.length_append, ← HY.out]; simp; omega)), HB7⟩
            case measure => simp [intOf] <;> omega
        · obtain rfl : j = 0 := by omega
          obtain ⟨AX, cX, rfl, RX⟩ := OwnI.read O.out
          have HXS := Lib.hid O.out
          have hx8 : xs.length ≤ 8 := by omega
          obtain ⟨X, hX⟩ : ∃ X, X = xs.length := ⟨_, rfl⟩
          have HX := Lib.hid hX
          rw [← hX] at HK hx8 HXS ⊢
          clear O RX hj hX hj0
          generalize wr = wx at *
          go_wp2_with fail
          refine (next_any w.heap.size (0 + 60 * I + 1 + 2 * X) 5 _ HK.out (by omega) (by decide) (by decide)).mono ?_
          rintro e w3 ⟨n0, rfl, n1, n2, k2, m2⟩
          obtain ⟨N5, rfl⟩ := Int.eq_ofNat_of_zero_le n1
          have hn5 : N5 ≤ 4 := by omega
          have HK3 := Lib.hid k2
          have HB3 := Lib.hid (Moves.below HB.out m2 (Nat.le_refl _) HB.out.size)
          have HX3 := Lib.hid (HXS.out.moves m2 (Nat.lt_succ_self _))
          clear n1 n2 k2 m2 HK HB HXS
          go_wp2_with fail
          go_loopw [13, 14] (fun v i wr => ∃ (j : Nat) (ds : List Dsc) (qs : List (List Int)), i = .int .i64 (j : Int) ∧ qs.length + j ≤ 4 ∧ Hid (Pats wr (w.heap.size + 1) v ds qs) ∧ Hid (Own .i64 3 wr (w.heap.size + 1) (.slice AX X cX) xs) ∧ Hid (Apart2 v (.slice AX X cX)) ∧ Hid (IsMk wr w.heap.size (0 + 60 * I + 1 + 2 * X + 1 + 5 * qs.length)) ∧ Hid (Below w.heap.size w wr)) (fun _ i _ => (intOf i).toNat)
          case atStart => exact ⟨N5, [], [], rfl, by simpa using hn5, Lib.hid Pats.nil, HX3, Lib.hid (fun g h => by cases h), HK3, HB3⟩
          case round =>
            clear HX3 HK3 HB3
            obtain ⟨j, ds, qs, rfl, hj, HP, HXO, HAX, HK, HB⟩ := hrel
            by_cases hj0 : 0 < j
            · have hj1 : (0 : Int) < (j : Int) := by omega
              obtain ⟨Q, hQ⟩ : ∃ Q, Q = qs.length := ⟨_, rfl⟩
              have HQ := Lib.hid hQ
              rw [← hQ] at hj HK
              clear hQ
              generalize wr = wy at *
              generalize u13 = vo at *
              go_wp2_with fail
              refine (next_any w.heap.size (0 + 60 * I + 1 + 2 * X + 1 + 5 * Q) 4 _ HK.out (by omega) (by decide) (by decide)).mono ?_
              rintro e w4 ⟨n0, rfl, n1, n2, k2, m2⟩
              obtain ⟨N4, rfl⟩ := Int.eq_ofNat_of_zero_le n1
              have hn4 : N4 ≤ 3 := by omega
              have HK4 := Lib.hid k2
              have HB4 := Lib.hid (Moves.below HB.out m2 (Nat.le_refl _) HB.out.size)
              have HX4 := Lib.hid (HXO.out.moves m2 (Nat.lt_succ_self _))
              have HP4 := Lib.hid (HP.out.moves m2 (Nat.lt_succ_self _))
              clear n1 n2 k2 m2 HK HB HXO HP
              go_wp2_with fail
              have H44 := Lib.hid (show Moves w.heap.size w4 w4 from Moves.refl _ _)
              have HW4 := Lib.hid (show w.heap.size + 1 ≤ w4.heap.size from HK4.out.lt)
              go_loopw [15, 16] (fun v i wr => ∃ (j4 : Nat) (ys : List Int), i = .int .i64 (j4 : Int) ∧ ys.length + j4 ≤ 3 ∧ Hid (Own .i64 3 wr w4.heap.size v ys) ∧ Hid (Moves w.heap.size w4 wr) ∧ Hid (IsMk wr w.heap.size (0 + 60 * I + 1 + 2 * X + 1 + 5 * Q + 1 + ys.length))) (fun _ i _ => (intOf i).toNat)
              case atStart => exact ⟨N4, [], rfl, by simpa using hn4, Lib.hid Own.nil, H44, HK4⟩
              case round =>
                clear HK4 H44
                obtain ⟨j4, ys, rfl, hj4, O, HM4, HK⟩ := hrel
                by_cases hj40 : 0 < j4
                · have hj41 : (0 : Int) < (j4 : Int) := by omega
                  obtain ⟨Y, hY⟩ : ∃ Y, Y = ys.length := ⟨_, rfl⟩
                  have HY := Lib.hid hY
                  rw [← hY] at hj4 HK
                  clear hY
                  go_wp2_with fail
                  refine (pick_any w.heap.size (0 + 60 * I + 1 + 2 * X + 1 + 5 * Q + 1 + Y) (fun _ => True) _ 5 5 _ (HK.out.alloc _) (by omega) (by omega) (by omega) (by have := HK.out.lt; omega) (by simp) (by exact new_pick _ _ (fun _ => True) [1, 2, 3, 4, 5] (fun _ _ => trivial) _ rfl)).mono ?_
                  rintro e w5 ⟨y, rfl, -, k5, m5⟩
                  have HK5 := Lib.hid k5
                  have HM5 := Lib.hid (HM4.out.trans ((Moves.of_below (box1W wr _)).trans m5))
                  have O5 := Lib.hid ((O.out.alloc _).moves m5 HW4.out)
                  have HLEN := Lib.hid (show ys.length + 1 ≤ 1000000000 by rw [← HY.out]; omega)
                  clear k5 m5 O HM4 HK
                  go_wp2_with (first
                    | (at_builtin; refine wpList_appI _ rfl (.tmp 51) (.tmp 55) rfl w4.heap.size _ ys rfl (O5.out.alloc _) y w5 rfl _ rfl 1 rfl HLEN.out (le_allocW HM5.out.size) ?_; intro v6 w6 A6; have O6 := Lib.hid A6.1; have HM6 := Lib.hid (Moves.grown (HM5.out.trans (Moves.of_below (box1W w5 _))) A6.2.1 (fun k e => (own_block O5.out e).1)); have HK6 := Lib.hid (IsMk.grown (HK5.out.alloc _) A6.2.1 (fun k e => by have := (own_block O5.out e).1; have := HW4.out; omega)); clear A6))
                  clear HK5 HM5 O5
                  go_roundw
                  case rel => exact ⟨j4 - 1, ys ++ [y], by congr 1; omega, by rw [List.length_append, ← HY.out]; simp; omega, O6, HM6, by rw [List.length_append, ← HY.out]; exact HK6⟩
                  case measure => simp [intOf] <;> omega
                · obtain rfl : j4 = 0 := by omega
                  have hy3 : ys.length ≤ 3 := by omega
                  have HAQ := Lib.hid (show Apart2 vo u15 from fun g h1 h2 => by
                    have e1 := (own_block O.out h2).1
                    have e2 := (HP4.out.own.block h1).2
                    omega)
                  obtain ⟨AQ, cQ, rfl, RQ⟩ := OwnI.read O.out
                  have HPy := Lib.hid (HP4.out.moves HM4.out (Nat.lt_succ_self _))
                  have HXy := Lib.hid (HX4.out.moves HM4.out (Nat.lt_succ_self _))
                  have HBy := Lib.hid (Moves.below HB4.out HM4.out (Nat.le_refl _) HB4.out.size)
                  have HOQ := Lib.hid (O.out.base HW4.out)
                  have HLEN := Lib.hid (show ds.length + 1 ≤ 1000000000 by rw [HPy.out.len, ← HQ.out]; omega)
                  have HS := Lib.hid (show w.heap.size + 1 ≤ wr.heap.size from HK.out.lt)
                  clear O RQ HM4 HP4 HX4 HB4
                  go_wp2_with (first
                    | (at_builtin; refine wpList_appSl _ rfl (.tmp 57) (.tmp 59) rfl (w.heap.size + 1) vo ds rfl (World.ownsRow.alloc HPy.out.own _) (AQ, ys.length, cQ) wr rfl _ rfl 1 rfl HLEN.out (le_allocW HS.out) ?_; intro v6 w6 A6; have HP6 := Lib.hid (Pats.app HPy.out HOQ.out rfl HAQ.out A6); have HX6 := Lib.hid (AppS.other A6 HXy.out HAX.out); have HK6 := Lib.hid (IsMk.grown (HK.out.alloc _) A6.2.1 (fun k e => (HPy.out.own.block e).1)); have HB6 := Lib.hid ((HBy.out.alloc HBy.out.size _).grown A6.2.1 (le_allocW HBy.out.size) (fun k e => Nat.le_of_succ_le (HPy.out.own.block e).1)); clear A6))
                  clear HPy HXy HBy HOQ HAQ HAX HK
                  go_roundw
                  case rel => exact ⟨j - 1, ds ++ [(AQ, ys.length, cQ)], qs ++ [ys], by congr 1; omega, by rw [List.length_append, ← HQ.out]; simp; omega, HP6, Lib.hid HX6.out.1, Lib.hid HX6.out.2, Lib.hid (HK6.out.more (by rw [List.length_append, ← HQ.out]; simp; omega)), HB6⟩
                  case measure => simp [intOf] <;> omega
            · obtain rfl : j = 0 := by omega
              have hq4 : qs.length ≤ 4 := by omega
              obtain ⟨AY, cY, rfl, -⟩ := HP.out.pp
              have HPW := Lib.hid (fun o => HP.out.below (box1W wr o))
              obtain ⟨QL, hQL⟩ : ∃ QL, QL = qs.length := ⟨_, rfl⟩
              have HQL := Lib.hid hQL
              rw [← hQL] at hq4 HK HPW ⊢
              clear hQL HP
              go_wp2_with fail
              refine (pick_any w.heap.size (0 + 60 * I + 1 + 2 * X + 1 + 5 * QL) (fun _ => True) _ 7 7 _ (HK.out.alloc _) (by omega) (by omega) (by omega) (by have := HK.out.lt; omega) (by simp) (by exact new_pick _ _ (fun _ => True) [0, 1, 2, 4, 10000, 10001, -1] (fun _ _ => trivial) _ rfl)).mono ?_
              rintro e w5 ⟨y, rfl, -, k5, m5⟩
              have HK5 := Lib.hid k5
              have HB5 := Lib.hid (Moves.below (HB.out.alloc HB.out.size _) m5 (Nat.le_refl _) (le_allocW HB.out.size))
              have HX5 := Lib.hid ((HXO.out.alloc _).moves m5 (Nat.lt_succ_self _))
              have HP5 := Lib.hid ((HPW.out _).moves m5 (Nat.lt_succ_self _))
              clear k5 m5 HK HB HXO HPW
              have HR := Lib.hid (show Calls Try.prog 25 #[.slice AX X cX, .slice AY QL cY, .int .i64 y] w5 (fun e w' => e = .returned (.bool true) ∧ Below w5.heap.size w5 w') from by
                obtain ⟨A', c', e', hPP⟩ := HP5.out.pp
                injection e' with e1 e2 e3
                subst e1; subst e3
                have p := recz_any xs qs y AX AY cX cY w5 (own_rowZ HX5.out) (own_lenZ HX5.out) (own_capZ HX5.out) hPP (by unfold maxLen; rw [← HQL.out]; omega)
                rwa [← HX.out, ← HQL.out] at p)
              go_wp2_with fail
              refine HR.out.mono ?_
              rintro e w6 ⟨rfl, B6⟩
              have HB6 := Lib.hid (HB5.out.trans (B6.mono HB5.out.size))
              have HK6 := Lib.hid (HK5.out.stays (B6.mono HK5.out.lt))
              clear B6 HB5 HK5 HX5 HP5 HR
              go_wp2_with fail
              go_roundw
              case rel => exact ⟨I + 1, by omega, by go_num, Lib.hid (HK6.out.more (by omega)), HB6⟩
              case measure => simp [intOf] <;> omega
    · obtain rfl : I = 5 := by omega
      by_cases t1 : 60 < L
      · have g1 : (60 : Int) < (L : Int) := by omega
        go_wp2_with fail
        refine (sane_any wr).mono ?_
        rintro e w2 ⟨rfl, B2⟩
        have HB2 := Lib.hid (HB.out.trans (B2.mono HB.out.size))
        go_wp2_with fail
        go_ret
        exact ⟨rfl, HB2.out⟩
      have g1 : ¬ (60 : Int) < (L : Int) := by omega
      by_cases t2 : 20 < M
      · have g2 : (20 : Int) < (M : Int) := by omega
        go_wp2_with fail
        refine (sane_any wr).mono ?_
        rintro e w2 ⟨rfl, B2⟩
        have HB2 := Lib.hid (HB.out.trans (B2.mono HB.out.size))
        go_wp2_with fail
        go_ret
        exact ⟨rfl, HB2.out⟩
      have g2 : ¬ (20 : Int) < (M : Int) := by omega
      go_wp2_with fail
      refine (HZ.out tol wr HB.out).mono ?_
      rintro e w2 ⟨rfl, B2⟩
      have HB2 := Lib.hid (HB.out.trans (B2.mono HB.out.size))
      go_wp2_with fail
      refine (HZ.out 3 w2 HB2.out).mono ?_
      rintro e w3 ⟨rfl, B3⟩
      have HB3 := Lib.hid (HB2.out.trans (B3.mono HB2.out.size))
      go_wp2_with fail
      refine (sane_any w3).mono ?_
      rintro e w4 ⟨rfl, B4⟩
      have HB4 := Lib.hid (HB3.out.trans (B4.mono HB3.out.size))
      go_wp2_with fail
      go_ret
      exact ⟨rfl, HB4.out⟩
end Go.Proofs.Ytgiodpepjajlmaa
