/-
  Stage 8: the walk of ReconcileCheaper.
-/
import Derived.Test.YtbdiilkdajadcaaDoorRLaw
set_option linter.unusedSimpArgs false
set_option linter.unusedVariables false
namespace Go.Proofs.YtbdiilkdajadcaaDoor
open Go.RowKit

/-- The two lists, while a third is made. -/
structure CS (w : World) (b0 b6 : Nat) (vx vy : Value) (xs ys : List Int) (W : World) : Prop where
  x : Own .i64 3 W b0 vx xs
  y : Own .i64 3 W b0 vy ys
  lx : ∀ g, vx.ownBlock = some g → g < b6
  ly : ∀ g, vy.ownBlock = some g → g < b6
  bel : Below w.heap.size w W
  le : w.heap.size ≤ b6
  hb : b6 ≤ W.heap.size
section
variable {w W W' : World} {b0 b6 m : Nat} {vx vy v v' : Value} {xs ys zs us : List Int}
theorem CS.moves (h : CS w b0 b6 vx vy xs ys W) (M : Moves m W W') (hm : m < b0) (hw : w.heap.size ≤ m) : CS w b0 b6 vx vy xs ys W' :=
  ⟨h.x.moves M hm, h.y.moves M hm, h.lx, h.ly, Moves.below h.bel M hw h.bel.size, h.le, Nat.le_trans h.hb M.size⟩
theorem CS.alloc (h : CS w b0 b6 vx vy xs ys W) (o : Obj) : CS w b0 b6 vx vy xs ys (W.alloc o) :=
  ⟨h.x.alloc o, h.y.alloc o, h.lx, h.ly, h.bel.alloc h.bel.size o, h.le, le_allocW h.hb⟩
theorem CS.drewN (h : CS w b0 b6 vx vy xs ys W) (n : Nat) : CS w b0 b6 vx vy xs ys (W.drewN n) :=
  ⟨h.x.drewN n, h.y.drewN n, h.lx, h.ly, bdn h.bel, h.le, h.hb⟩
theorem CS.below (h : CS w b0 b6 vx vy xs ys W) (b : Below W.heap.size W W') : CS w b0 b6 vx vy xs ys W' :=
  ⟨h.x.below b, h.y.below b, h.lx, h.ly, h.bel.trans (b.mono h.bel.size), h.le, Nat.le_trans h.hb b.size⟩
theorem CS.app (h : CS w b0 b6 vx vy xs ys W) (A : AppN b6 v zs us W v' W') (O : Own .i64 3 W b6 v zs) : CS w b0 b6 vx vy xs ys W' := by
  have hv : ∀ k, v.ownBlock = some k → b6 ≤ k := fun k e => (own_block O e).1
  refine ⟨h.x.kept A.2.1 ?_, h.y.kept A.2.1 ?_, h.lx, h.ly, h.bel.grown A.2.1 h.bel.size (fun k e => Nat.le_trans h.le (hv k e)), h.le, Nat.le_trans h.hb A.2.1.size⟩
  · cases e : vx.ownBlock with
    | none => exact Or.inl rfl
    | some g => exact Or.inr (fun e' => by have := h.lx g e; have := hv g e'.symm; omega)
  · cases e : vy.ownBlock with
    | none => exact Or.inl rfl
    | some g => exact Or.inr (fun e' => by have := h.ly g e; have := hv g e'.symm; omega)
theorem Own.lst' {base : Nat} {A : Option Addr} {n c : Nat} (h : Own .i64 3 W base (.slice A n c) xs) (hl : xs.length ≤ 96) : Lst W A n c xs := by
  obtain ⟨A', c', e, R, hc, _⟩ := h.slice
  injection e with e1 e2 e3
  subst e1; subst e3
  exact ⟨e2, hl, R, hc⟩
theorem Own.cellR {base : Nat} {A : Option Addr} {n c i : Nat} (h : Own .i64 3 W base (.slice A n c) xs) (hi : i < xs.length) : ∃ g, A = some ⟨g, 0, none⟩ ∧ W.cell? ⟨g, i, none⟩ = some (.int .i64 (xs.getD i 0)) := by
  obtain ⟨A', c', e, R, hc, hm, hg⟩ := h.slice
  injection e with e1 e2 e3
  subst e1; subst e3
  obtain ⟨g, rfl, _⟩ := hg (by omega)
  obtain ⟨ad, e, _, hc⟩ := R i hi
  injection e with e
  subst e
  rw [add_own] at hc
  exact ⟨g, rfl, hc⟩
end
/-- A script so far. -/
structure Scr (a b es : List Int) (i j : Nat) : Prop where
  wlk : ∃ d, wlk a b (some (0, 0, 0)) es = some (i, j, d)
  len : es.length ≤ i + j
theorem Scr.nil {a b : List Int} : Scr a b [] 0 0 := ⟨⟨0, rfl⟩, Nat.le_refl _⟩
theorem Scr.step {a b es : List Int} {i j n : Nat} (h : Scr a b es i j) (ho : okP a b i j n = true) (e : Int) (he : e = Int.ofNat n) : Scr a b (es ++ [e]) (i + dA n) (j + dB n) := by
  obtain ⟨⟨d, hd⟩, hl⟩ := h
  subst he
  refine ⟨⟨d + dC n, ?_⟩, ?_⟩
  · rw [wlk_app, hd]; exact stp_ok ho
  · rw [List.length_append]
    have : 1 ≤ dA n + dB n := by
      have h5 := okP_lt ho
      match n, h5 with
      | 0, _ => decide
      | 1, _ => decide
      | 2, _ => decide
      | 3, _ => decide
      | 4, _ => decide
    simp only [List.length_cons, List.length_nil]
    omega
theorem Scr.cos {a b es : List Int} (h : Scr a b es a.length b.length) (hl : ¬ lngP a b) : ∃ d, cosR a b es = (d, 0) ∧ cst a b 0 0 ≤ d := by
  obtain ⟨⟨d, hd⟩, _⟩ := h
  refine ⟨d, ?_, ?_⟩
  · unfold cosR; rw [if_neg hl, hd]; exact if_pos ⟨rfl, rfl⟩
  · have := (wlk_in (Nat.zero_le _) (Nat.zero_le _) hd).2.2.1
    rw [cst_end] at this
    omega
set_option maxRecDepth 100000 in
set_option maxHeartbeats 12800000 in
theorem cheap_walk (ts : List Int) (AT : Option Addr) (ct : Nat) (w : World) (hK : Knd w) (rt : Row .i64 w w.heap.size AT ts) (mt : ts.length ≤ maxLen) (wt : ∀ n ∈ ts, (Lit.int .i64 n).wf = true) :
    Calls Tryd.prog 7 #[.slice AT ts.length ct] w fun e w' => e = .returned (.bool true) ∧ Below w.heap.size w w' := by
  have HK := Lib.hid hK
  have K0 := Lib.hid (mk_row (T := 64) (c := ct) rt mt wt)
  clear hK rt mt wt
  go_enter Tryd.func7, Tryd.ntmps7
  go_wp2_with fail
  refine (new_any AT ts.length ct _).mono ?_
  rintro e w1 ⟨rfl, e1⟩
  obtain ⟨m, hm⟩ : ∃ m, m = w.heap.size := ⟨_, rfl⟩
  have HM := Lib.hid hm
  have K1 := Lib.hid (show IsMk w1 m 0 by rw [e1, hm]; exact K0.out)
  have B1 := Lib.hid (show Below w.heap.size w w1 by rw [e1]; exact box1W _ _)
  rw [← hm]
  clear e1 K0 hm
  go_wp2_with fail
  refine (lists_any m 0 10 _ K1.out (by omega) (by omega)).mono ?_
  rintro e w2 ⟨vx, vy, xs, ys, rfl, OX, OY, hx, hy, K2, M2⟩
  obtain ⟨b0, hb0⟩ : ∃ b0, b0 = w1.heap.size := ⟨_, rfl⟩
  have hmb : m < b0 := by rw [hb0]; exact K1.out.lt
  have HM2 := Lib.hid K2
  have HB0 := Lib.hid (show b0 ≤ w2.heap.size by rw [hb0]; exact M2.size)
  have B2 := Lib.hid (Moves.below B1.out M2 (Nat.le_of_eq HM.out.symm) B1.out.size)
  have K2 := Lib.hid (HK.out.below' B2.out)
  rw [← hb0] at OX OY
  have HOX := Lib.hid OX
  have HOY := Lib.hid OY
  obtain ⟨A, c, rfl, LA⟩ := OX.lst (by omega)
  obtain ⟨A', c', rfl, LB⟩ := OY.lst (by omega)
  have LX := Lib.hid LA
  have LY := Lib.hid LB
  obtain ⟨X, hX⟩ : ∃ X, X = xs.length := ⟨_, rfl⟩
  obtain ⟨Y, hY⟩ : ∃ Y, Y = ys.length := ⟨_, rfl⟩
  have HX := Lib.hid hX
  have HY := Lib.hid hY
  rw [← hX] at LX HOX hx ⊢
  rw [← hY] at LY HOY hy ⊢
  clear LA LB OX OY K1 B1 M2 hb0 hX hY
  go_wp2_with fail
  refine (ali_sm K2.out LX.out LY.out).mono ?_
  rintro e w3 ⟨⟨v3, rfl, -⟩, B3⟩
  have B23 := Lib.hid (B2.out.trans (B3.mono B2.out.size))
  have K3 := Lib.hid (HK.out.below' B23.out)
  have LX3 := Lib.hid (LX.out.below B3)
  have LY3 := Lib.hid (LY.out.below B3)
  have T3 := Lib.hid B3
  clear B3 B2 K2 LX LY
  go_wp2_with fail
  refine (pot_sm K3.out LX3.out LY3.out).mono ?_
  rintro e w5 ⟨⟨g, k, cg, rfl, P5⟩, B5⟩
  have HP5 := Lib.hid P5
  have B25 := Lib.hid (B23.out.trans (B5.mono B23.out.size))
  have K5 := Lib.hid (HK.out.below' B25.out)
  have LX5 := Lib.hid (LX3.out.below B5)
  have LY5 := Lib.hid (LY3.out.below B5)
  have T5 := Lib.hid (T3.out.trans (B5.mono T3.out.size))
  have HYS := Lib.hid (ver_yes K5.out LX5.out LY5.out HP5.out)
  obtain ⟨C, hC, hc0, hc1⟩ := cst_ex LX5.out LY5.out
  have HC := Lib.hid hC
  rw [hC] at HYS ⊢
  clear hC P5 B5 B23 K3 LX3 LY3 HP5 T3
  go_wp2_with fail
  refine HYS.out.mono ?_
  rintro e w6 ⟨rfl, B6⟩
  have T6 := Lib.hid (T5.out.trans (B6.mono T5.out.size))
  have HCS := Lib.hid (show CS w b0 w6.heap.size (.slice A X c) (.slice A' Y c') xs ys w6 from ⟨HOX.out.below T6.out, HOY.out.below T6.out, fun g e => (own_block (HOX.out.below T6.out) e).2, fun g e => (own_block (HOY.out.below T6.out) e).2, B25.out.trans (B6.mono B25.out.size), Nat.le_trans B25.out.size B6.size, Nat.le_refl _⟩)
  have HMK := Lib.hid (HM2.out.stays' T6.out)
  have HB06 := Lib.hid (show b0 ≤ w6.heap.size from Nat.le_trans HB0.out T6.out.size)
  clear B6 T6 T5 B25 K5 LX5 LY5 HYS HOX HOY HM2
  go_wp2_with fail
  go_loopw [11, 12, 13] (fun v i j wr => ∃ (I J M : Nat) (es : List Int), i = .int .i64 (I : Int) ∧ j = .int .i64 (J : Int) ∧ I ≤ X ∧ J ≤ Y ∧ M ≤ 31 + I + J ∧ Hid (Own .i64 3 wr w6.heap.size v es) ∧ Hid (CS w b0 w6.heap.size (.slice A X c) (.slice A' Y c') xs ys wr) ∧ Hid (IsMk wr m M) ∧ Hid (Scr xs ys es I J)) (fun _ i j _ => X + Y - (intOf i).toNat - (intOf j).toNat)
  case atStart => exact ⟨0, 0, _, [], rfl, rfl, by omega, by omega, by omega, Lib.hid Own.nil, HCS, HMK, Lib.hid Scr.nil⟩
  case round =>
    clear HCS HMK
    obtain ⟨I, J, M, es, rfl, rfl, hI, hJ, hM, O, S, K, H⟩ := hrel
    have HMB := Lib.hid (And.intro hmb (Nat.le_of_eq HM.out.symm))
    have hmx : M ≤ 100 := by omega
    have HLEN := Lib.hid (show es.length + 1 ≤ 1000000000 by have := H.out.len; omega)
    have wi : IntKind.i64.wrap ((I : Int) + 1) = (I : Int) + 1 := IntWalk.i64_in _ (by omega)
    have wj : IntKind.i64.wrap ((J : Int) + 1) = (J : Int) + 1 := IntWalk.i64_in _ (by omega)
    have HMM := Lib.hid hM
    by_cases hi : I < X
    · have hi' : (I : Int) < (X : Int) := by omega
      by_cases hj : J < Y
      · have hj' : (J : Int) < (Y : Int) := by omega
        have hjn : ((J : Int) == (Y : Int)) = false := beq_eq_false_iff_ne.2 (by omega)
        clear hM
        go_wp2_with fail
        refine (next_any m M 3 _ K.out (by omega) (by decide) (by decide)).mono ?_
        rintro e wq ⟨q, rfl, q1, q2, k2, m2⟩
        have OO := Lib.hid (O.out.moves m2 (Nat.lt_of_lt_of_le HMB.out.1 HB06.out))
        have SS := Lib.hid (S.out.moves m2 HMB.out.1 HMB.out.2)
        have KK := Lib.hid k2
        have hq : q = 0 ∨ q = 1 ∨ q = 2 := by omega
        clear k2 m2 O S K q1 q2
        rcases hq with rfl | rfl | rfl
        · obtain ⟨gx, rfl, cx⟩ := SS.out.x.cellR (i := I) (by rw [← HX.out]; exact hi)
          obtain ⟨gy, rfl, cy⟩ := SS.out.y.cellR (i := J) (by rw [← HY.out]; exact hj)
          have kn : (I : Int).toNat = I := by omega
          have kp : (0 : Int) ≤ (I : Int) := by omega
          have jn : (J : Int).toNat = J := by omega
          have jp : (0 : Int) ≤ (J : Int) := by omega
          by_cases hxy : xs.getD I 0 = ys.getD J 0
          · have HS := Lib.hid (H.out.step (n := 0) (okP0.2 ⟨by rw [← HX.out]; exact hi, by rw [← HY.out]; exact hj, hxy⟩) 0 rfl)
            rw [← hxy] at cy
            generalize xs.getD I 0 = z at cx cy
            clear hxy
            go_wp2_with fail
            go_quiet (fail)
            replace OO := Lib.hid (OO.out.drewN nq)
            replace SS := Lib.hid (SS.out.drewN nq)
            replace KK := Lib.hid (KK.out.drewN (n := nq))
            clear cx cy
            generalize wq.drewN nq = wq at OO SS KK ⊢
            go_wp2_with (first
              | (at_builtin; refine wpList_appI _ rfl (.tmp 102) (.tmp 104) rfl w6.heap.size _ es rfl (OO.out.alloc _) 0 wq rfl _ rfl 1 rfl HLEN.out (le_allocW SS.out.hb) ?_; intro v4 w4 A4; have A4 := AppI.appN A4; have O4 := Lib.hid A4.1; have S4 := Lib.hid ((SS.out.alloc _).app A4 (OO.out.alloc _)); have K4 := Lib.hid (A4.mk (KK.out.alloc _) (OO.out.alloc _) (Nat.lt_of_lt_of_le HMB.out.1 HB06.out)); clear A4))
            clear OO SS KK
            go_roundw
            case rel => exact ⟨I + 1, J + 1, M + 1, es ++ [0], by go_num, by go_num, by omega, by omega, by have := HMM.out; omega, O4, S4, K4, HS⟩
            case measure => simp [intOf] <;> omega
          · have HS := Lib.hid (H.out.step (n := 1) (okP1.2 ⟨by rw [← HX.out]; exact hi, by rw [← HY.out]; exact hj, hxy⟩) 1 rfl)
            have hq : (xs.getD I 0 == ys.getD J 0) = false := beq_eq_false_iff_ne.2 hxy
            generalize xs.getD I 0 = z at cx hq
            generalize ys.getD J 0 = z' at cy hq
            clear hxy
            go_wp2_with fail
            go_quiet (fail)
            replace OO := Lib.hid (OO.out.drewN nq)
            replace SS := Lib.hid (SS.out.drewN nq)
            replace KK := Lib.hid (KK.out.drewN (n := nq))
            clear cx cy
            generalize wq.drewN nq = wq at OO SS KK ⊢
            go_wp2_with (first
              | (at_builtin; refine wpList_appI _ rfl (.tmp 102) (.tmp 104) rfl w6.heap.size _ es rfl (OO.out.alloc _) 1 wq rfl _ rfl 1 rfl HLEN.out (le_allocW SS.out.hb) ?_; intro v4 w4 A4; have A4 := AppI.appN A4; have O4 := Lib.hid A4.1; have S4 := Lib.hid ((SS.out.alloc _).app A4 (OO.out.alloc _)); have K4 := Lib.hid (A4.mk (KK.out.alloc _) (OO.out.alloc _) (Nat.lt_of_lt_of_le HMB.out.1 HB06.out)); clear A4))
            clear OO SS KK
            go_roundw
            case rel => exact ⟨I + 1, J + 1, M + 1, es ++ [1], by go_num, by go_num, by omega, by omega, by have := HMM.out; omega, O4, S4, K4, HS⟩
            case measure => simp [intOf] <;> omega
        · have HS := Lib.hid (H.out.step (n := 2) (okP2.2 (by rw [← HX.out]; exact hi)) 2 rfl)
          go_wp2_with (first
            | (at_builtin; refine wpList_appI _ rfl (.tmp 125) (.tmp 126) rfl w6.heap.size _ es rfl (OO.out.alloc _) 2 wq rfl _ rfl 1 rfl HLEN.out (le_allocW SS.out.hb) ?_; intro v4 w4 A4; have A4 := AppI.appN A4; have O4 := Lib.hid A4.1; have S4 := Lib.hid ((SS.out.alloc _).app A4 (OO.out.alloc _)); have K4 := Lib.hid (A4.mk (KK.out.alloc _) (OO.out.alloc _) (Nat.lt_of_lt_of_le HMB.out.1 HB06.out)); clear A4))
          clear OO SS KK
          go_roundw
          case rel => exact ⟨I + 1, J + 0, M + 1, es ++ [2], by go_num, by go_num, by omega, by omega, by have := HMM.out; omega, O4, S4, K4, HS⟩
          case measure => simp [intOf] <;> omega
        · have HS := Lib.hid (H.out.step (n := 3) (okP3.2 (by rw [← HY.out]; exact hj)) 3 rfl)
          go_wp2_with (first
            | (at_builtin; refine wpList_appI _ rfl (.tmp 73) (.tmp 74) rfl w6.heap.size _ es rfl (OO.out.alloc _) 3 wq rfl _ rfl 1 rfl HLEN.out (le_allocW SS.out.hb) ?_; intro v4 w4 A4; have A4 := AppI.appN A4; have O4 := Lib.hid A4.1; have S4 := Lib.hid ((SS.out.alloc _).app A4 (OO.out.alloc _)); have K4 := Lib.hid (A4.mk (KK.out.alloc _) (OO.out.alloc _) (Nat.lt_of_lt_of_le HMB.out.1 HB06.out)); clear A4))
          clear OO SS KK
          go_roundw
          case rel => exact ⟨I + 0, J + 1, M + 1, es ++ [3], by go_num, by go_num, by omega, by omega, by have := HMM.out; omega, O4, S4, K4, HS⟩
          case measure => simp [intOf] <;> omega
      · obtain rfl : J = Y := by omega
        have hj' : ¬ (J : Int) < (J : Int) := by omega
        have HS := Lib.hid (H.out.step (n := 2) (okP2.2 (by rw [← HX.out]; exact hi)) 2 rfl)
        clear hM
        go_wp2_with fail
        refine (next_any m M 3 _ K.out (by omega) (by decide) (by decide)).mono ?_
        rintro e wq ⟨q, rfl, q1, q2, k2, m2⟩
        have OO := Lib.hid (O.out.moves m2 (Nat.lt_of_lt_of_le HMB.out.1 HB06.out))
        have SS := Lib.hid (S.out.moves m2 HMB.out.1 HMB.out.2)
        have KK := Lib.hid k2
        have hq : q = 0 ∨ q = 1 ∨ q = 2 := by omega
        clear k2 m2 O S K q1 q2
        rcases hq with rfl | rfl | rfl
        all_goals
          go_wp2_with (first
            | (at_builtin; refine wpList_appI _ rfl (.tmp 125) (.tmp 126) rfl w6.heap.size _ es rfl (OO.out.alloc _) 2 wq rfl _ rfl 1 rfl HLEN.out (le_allocW SS.out.hb) ?_; intro v4 w4 A4; have A4 := AppI.appN A4; have O4 := Lib.hid A4.1; have S4 := Lib.hid ((SS.out.alloc _).app A4 (OO.out.alloc _)); have K4 := Lib.hid (A4.mk (KK.out.alloc _) (OO.out.alloc _) (Nat.lt_of_lt_of_le HMB.out.1 HB06.out)); clear A4))
          clear OO SS KK
          go_roundw
          case rel => exact ⟨I + 1, J + 0, M + 1, es ++ [2], by go_num, by go_num, by omega, by omega, by have := HMM.out; omega, O4, S4, K4, HS⟩
          case measure => simp [intOf] <;> omega
    · obtain rfl : I = X := by omega
      have hi' : ¬ (I : Int) < (I : Int) := by omega
      by_cases hj : J < Y
      · have hj' : (J : Int) < (Y : Int) := by omega
        have hjn : ((J : Int) == (Y : Int)) = false := beq_eq_false_iff_ne.2 (by omega)
        have HS := Lib.hid (H.out.step (n := 3) (okP3.2 (by rw [← HY.out]; exact hj)) 3 rfl)
        clear hM
        go_wp2_with fail
        refine (next_any m M 3 _ K.out (by omega) (by decide) (by decide)).mono ?_
        rintro e wq ⟨q, rfl, q1, q2, k2, m2⟩
        have OO := Lib.hid (O.out.moves m2 (Nat.lt_of_lt_of_le HMB.out.1 HB06.out))
        have SS := Lib.hid (S.out.moves m2 HMB.out.1 HMB.out.2)
        have KK := Lib.hid k2
        have hq : q = 0 ∨ q = 1 ∨ q = 2 := by omega
        clear k2 m2 O S K q1 q2
        rcases hq with rfl | rfl | rfl
        all_goals
          go_wp2_with (first
            | (at_builtin; refine wpList_appI _ rfl (.tmp 73) (.tmp 74) rfl w6.heap.size _ es rfl (OO.out.alloc _) 3 wq rfl _ rfl 1 rfl HLEN.out (le_allocW SS.out.hb) ?_; intro v4 w4 A4; have A4 := AppI.appN A4; have O4 := Lib.hid A4.1; have S4 := Lib.hid ((SS.out.alloc _).app A4 (OO.out.alloc _)); have K4 := Lib.hid (A4.mk (KK.out.alloc _) (OO.out.alloc _) (Nat.lt_of_lt_of_le HMB.out.1 HB06.out)); clear A4))
          clear OO SS KK
          go_roundw
          case rel => exact ⟨I + 0, J + 1, M + 1, es ++ [3], by go_num, by go_num, by omega, by omega, by have := HMM.out; omega, O4, S4, K4, HS⟩
          case measure => simp [intOf] <;> omega
      · obtain rfl : J = Y := by omega
        have hj' : ¬ (J : Int) < (J : Int) := by omega
        have LX := Lib.hid (S.out.x.lst' (by rw [← HX.out]; omega))
        have LY := Lib.hid (S.out.y.lst' (by rw [← HY.out]; omega))
        have KW := Lib.hid (HK.out.below' S.out.bel)
        have HBW := Lib.hid S.out.bel
        obtain ⟨d, hd, hcd⟩ := Scr.cos (a := xs) (b := ys) (es := es) (by have := H.out; rwa [HX.out, HY.out] at this) (lng_no LX.out.sml LY.out.sml)
        rw [HC.out] at hcd
        obtain ⟨AE, cE, rfl, RE, -⟩ := O.out.slice
        have HRE := Lib.hid RE
        have HD := Lib.hid hd
        have HLE := Lib.hid (show es.length ≤ 1000000 by have := H.out.len; omega)
        clear RE hd O S K H hM
        go_wp2_with fail
        refine (cos_sm KW.out LX.out LY.out rfl HRE.out HLE.out).mono ?_
        rintro e w8 ⟨rfl, B8⟩
        rw [HD.out]
        have B28 := Lib.hid (HBW.out.trans (B8.mono HBW.out.size))
        have K8 := Lib.hid (HK.out.below' B28.out)
        have hge : d ≥ C := hcd
        clear B8 HBW KW LX LY HRE HLE HD
        go_wp2_with fail
        refine (sane_any _ K8.out).mono ?_
        rintro e w9 ⟨rfl, B9⟩
        have B29 := Lib.hid (B28.out.trans (B9.mono B28.out.size))
        clear B9 B28 K8
        go_wp2_with fail
        go_ret
        exact ⟨rfl, B29.out⟩
end Go.Proofs.YtbdiilkdajadcaaDoor
