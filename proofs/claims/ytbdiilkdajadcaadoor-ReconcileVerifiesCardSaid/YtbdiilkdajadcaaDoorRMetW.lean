/-
  Stage 8: the walk of ReconcileMetric.
-/
import Derived.Test.YtbdiilkdajadcaaDoorRLaw
import Derived.Test.YtbdiilkdajadcaaDoorRMet
import Derived.Test.YtbdiilkdajadcaaDoorRInts
set_option linter.unusedSimpArgs false
set_option linter.unusedVariables false
namespace Go.Proofs.YtbdiilkdajadcaaDoor
open Go.RowKit

theorem own_emptyR {w : World} {base : Nat} (hb : base ≤ w.heap.size) : Own .i64 3 (w.alloc (.cells #[] 3)) base (.slice (some ⟨w.heap.size, 0, none⟩) 0 0) [] := Own.laid w base hb [] 0 rfl (by decide)
theorem wpList_appL (W : World) {ops : Array Oper} {rest : List Oper} {o : Oper} {a : Act} {Q : Exit → Act → World → Prop} (hgd : o.guard = none) (s x : Operand)
    (ho : o.op = .call { callee := .builtin .append, args := #[s, x], argTypes := #[22, 22] }) (base : Nat) (v : Value) (n : Nat) (zs : List Int) (hn : n = zs.length) (hs : a.eval s = v) (O : Own .i64 3 W base v zs)
    (b0 : Nat) (A : Option Addr) (m c : Nat) (l : List Int) (hx : a.eval x = .slice A m c) (S : Own .i64 3 W b0 (.slice A m c) l) (hm : m = l.length)
    (hl : zs.length + l.length ≤ 1000000) (hb : base ≤ W.heap.size)
    (h : ∀ v' w', Own .i64 3 w' base v' (zs ++ l) → W.grownBy w' v.ownBlock → wpList Tryd.prog ops Q rest (a.put o.dst v') w') : wpList Tryd.prog ops Q (o :: rest) a W := by
  obtain ⟨i0, hi, hz0, hz1, hz2⟩ := info_parts infoIntW
  subst hn
  subst hm
  obtain ⟨A', c', e, R, _⟩ := S.slice
  injection e with e1 e2 e3
  subst e1; subst e3
  refine wpList_app_src hgd s x 22 ho base 3 i0 (.int .i64 0) 1 8 Tryd.underlying22 hi hz0 hz1 hz2 rfl (by decide) v zs.length (zs.map (Value.int .i64)) hs O A l.length c (l.map (Value.int .i64)) hx ?_ (by simp) ?_ (one_cells (ys := l)) (by unfold maxLen; omega) (by omega) hb ?_
  · intro e
    rcases S.2 with ⟨q, q2⟩ | ⟨g, cap, cur, q, _⟩
    · injection q with q1 q2 q3; exact ⟨q2, q3⟩
    · injection q with q1; rw [q1] at e; cases e
  · intro ad e j u hj
    rw [List.getElem?_map, Option.map_eq_some_iff] at hj
    obtain ⟨z, hz, rfl⟩ := hj
    have hjl := (List.getElem?_eq_some_iff.1 hz).1
    obtain ⟨ad', e', _, hc⟩ := R j hjl
    rw [e] at e'
    injection e' with e'
    subst e'
    rw [hc, List.getD_eq_getElem?_getD, hz]; rfl
  · intro v' w' ho' hg
    exact h v' w' (Own.app (zs := zs) (ys := l) ho' rfl rfl) hg
set_option maxRecDepth 100000 in
set_option maxHeartbeats 12800000 in
theorem met_walk (ts : List Int) (x : Int) (AT : Option Addr) (ct : Nat) (w : World) (hK : Knd w) (rt : Row .i64 w w.heap.size AT ts) (mt : ts.length ≤ maxLen) (wt : ∀ n ∈ ts, (Lit.int .i64 n).wf = true) :
    Calls Tryd.prog 8 #[.slice AT ts.length ct, .int .i64 x] w fun e w' => e = .returned (.bool true) ∧ Below w.heap.size w w' := by
  have HK := Lib.hid hK
  have K0 := Lib.hid (mk_row (T := 64) (c := ct) rt mt wt)
  clear hK rt mt wt
  go_enter Tryd.func8, Tryd.ntmps8
  go_wp2_with fail
  refine (new_any AT ts.length ct _).mono ?_
  rintro e w1 ⟨rfl, e1⟩
  obtain ⟨m, hm⟩ : ∃ m, m = w.heap.size := ⟨_, rfl⟩
  have HM := Lib.hid hm
  have K1 := Lib.hid (show IsMk w1 m 0 by rw [e1, hm]; exact K0.out)
  have B1 := Lib.hid (show Below w.heap.size w w1 by rw [e1]; exact box1W _ _)
  rw [← hm]
  clear e1 K0 hm
  go_wp2_with fail
  refine (lists_any m 0 12 _ K1.out (by omega) (by omega)).mono ?_
  rintro e w2 ⟨vx, vy, xs, ys, rfl, OX, OY, hx, hy, -, M2⟩
  have B2 := Lib.hid (Moves.below B1.out M2 (Nat.le_of_eq HM.out.symm) B1.out.size)
  have K2 := Lib.hid (HK.out.below' B2.out)
  generalize w1.heap.size = b0 at OX OY
  have HOX := Lib.hid OX
  obtain ⟨A, c, rfl, LA⟩ := OX.lst (by omega)
  obtain ⟨A', c', rfl, LB⟩ := OY.lst (by omega)
  have LX := Lib.hid LA
  have LY := Lib.hid LB
  obtain ⟨X, hX⟩ : ∃ X, X = xs.length := ⟨_, rfl⟩
  obtain ⟨Y, hY⟩ : ∃ Y, Y = ys.length := ⟨_, rfl⟩
  have HX := Lib.hid hX
  have HY := Lib.hid hY
  rw [← hX] at LX HOX hx ⊢
  rw [← hY] at LY hy ⊢
  clear LA LB OX OY K1 B1 M2 hX hY
  go_wp2_with fail
  refine (ali_sm K2.out LX.out LY.out).mono ?_
  rintro e w3 ⟨⟨v3, rfl, -⟩, B3⟩
  have B23 := Lib.hid (B2.out.trans (B3.mono B2.out.size))
  have K3 := Lib.hid (HK.out.below' B23.out)
  have LX3 := Lib.hid (LX.out.below B3)
  have LY3 := Lib.hid (LY.out.below B3)
  have T3 := Lib.hid B3
  obtain ⟨C, hC, hc0, hc1⟩ := cst_ex LX.out LY.out
  have HC := Lib.hid hC
  rw [hC]
  clear B3 B2 K2 LX LY hC
  go_wp2_with fail
  refine (ali_sm K3.out LY3.out LX3.out).mono ?_
  rw [cst_sym ys xs, HC.out]
  rintro e w4 ⟨⟨v4, rfl, -⟩, B4⟩
  have B24 := Lib.hid (B23.out.trans (B4.mono B23.out.size))
  have K4 := Lib.hid (HK.out.below' B24.out)
  have LX4 := Lib.hid (LX3.out.below B4)
  have LY4 := Lib.hid (LY3.out.below B4)
  have T4 := Lib.hid (T3.out.trans (B4.mono T3.out.size))
  clear B4 B23 K3 LX3 LY3 T3
  go_wp2_with fail
  refine (ali_sm K4.out LX4.out LX4.out).mono ?_
  rw [cst_self xs xs.length 0 (Nat.zero_add _)]
  rintro e w5 ⟨⟨v5, rfl, O5⟩, B5⟩
  have B25 := Lib.hid (B24.out.trans (B5.mono B24.out.size))
  have K5 := Lib.hid (HK.out.below' B25.out)
  have LX5 := Lib.hid (LX4.out.below B5)
  have LY5 := Lib.hid (LY4.out.below B5)
  have T5 := Lib.hid (T4.out.trans (B5.mono T4.out.size))
  obtain ⟨A5, c5, rfl, -⟩ := O5.slice
  rw [scr_self, ← HX.out]
  have OX5 := Lib.hid (HOX.out.below T5.out)
  clear B5 B24 K4 LX4 LY4 T4 T5 O5 HOX
  have HEM := Lib.hid (own_emptyR (Nat.le_refl w5.heap.size))
  have HBE := Lib.hid (box1W w5 (.cells #[] 3))
  have HLN := Lib.hid (show ([] : List Int).length + xs.length ≤ 1000000 by rw [List.length_nil, ← HX.out]; omega)
  have HLN2 := Lib.hid (show xs.length + 1 ≤ 1000000000 by rw [← HX.out]; omega)
  go_wp2_with (first
    | (at_builtin; refine wpList_appL _ rfl (.tmp 49) (.tmp 50) rfl w5.heap.size _ 0 [] rfl rfl HEM.out b0 A X c xs rfl (OX5.out.alloc _) HX.out HLN.out HBE.out.size ?_; intro v6 w6 O6 G6; have O6 := Lib.hid (show Own .i64 3 w6 w5.heap.size v6 xs from O6); have B6 := Lib.hid (HBE.out.grown G6 HBE.out.size (fun k e => (own_block HEM.out e).1)); clear G6)
    | (at_builtin; refine wpList_appI _ rfl (.tmp 51) (.tmp 53) rfl w5.heap.size _ xs rfl (O6.out.alloc _) x w6 rfl _ rfl 1 rfl HLN2.out (le_allocW B6.out.size) ?_; intro v7 w7 A7; have O7 := Lib.hid A7.1; have B7 := Lib.hid (AppI.below A7 B6.out B6.out.size O6.out); clear A7))
  obtain ⟨A7, c7, rfl, L7⟩ := O7.out.lst (by rw [List.length_append, ← HX.out]; simp; omega)
  generalize (xs ++ [x]).length = n7 at L7 ⊢
  have LX7 := Lib.hid (LX5.out.below B7.out)
  have LY7 := Lib.hid (LY5.out.below B7.out)
  have B27 := Lib.hid (B25.out.trans (B7.out.mono B25.out.size))
  have K7 := Lib.hid (HK.out.below' B27.out)
  have HL7 := Lib.hid L7
  obtain ⟨D, hD, hd0, hd1⟩ := cst_ex L7 LY7.out
  obtain ⟨near1, near2⟩ := app_near xs ys x
  have hdec : decide (xs = ys) = (C == 0) := by
    rw [Bool.eq_iff_iff, decide_eq_true_iff, beq_iff_eq, ← HC.out]; exact (cst_eq xs ys).symm
  have HDEC := Lib.hid hdec
  rw [hD, HC.out] at near1 near2
  have HD := Lib.hid hD
  clear L7 O7 B7 B6 O6 HEM HBE HLN HLN2 LX5 LY5 B25 K5 OX5 hD hdec
  refine (ali_sm K7.out HL7.out LY7.out).mono ?_
  rw [HD.out]
  rintro e w8 ⟨⟨v8, rfl, -⟩, B8⟩
  have B28 := Lib.hid (B27.out.trans (B8.mono B27.out.size))
  have LX8 := Lib.hid (LX7.out.below B8)
  have LY8 := Lib.hid (LY7.out.below B8)
  clear B8 B27 K7 HL7 LX7 LY7 HD
  have wc : IntKind.i64.wrap (C + 4) = C + 4 := IntWalk.i64_in _ (by omega)
  have wd : IntKind.i64.wrap (D + 4) = D + 4 := IntWalk.i64_in _ (by omega)
  go_wp2_with fail
  refine (ints_any xs ys A A' X Y c c' w8 HX.out HY.out LX8.out.row LY8.out.row (by have := LX8.out.sml; unfold maxLen; omega) (by have := LY8.out.sml; unfold maxLen; omega)).mono ?_
  rintro e w9 ⟨rfl, nn, rfl⟩
  rw [HDEC.out]
  have B29 := Lib.hid (show Below w.heap.size w (w8.drewN nn) from bdn B28.out)
  generalize w8.drewN nn = w9 at B29 ⊢
  have K9 := Lib.hid (HK.out.below' B29.out)
  clear B28 LX8 LY8 HDEC
  go_wp2_with fail
  refine (sane_any _ K9.out).mono ?_
  rintro e w10 ⟨rfl, B10⟩
  have B210 := Lib.hid (B29.out.trans (B10.mono B29.out.size))
  clear B10 B29 K9
  go_wp2_with fail
  go_ret
  exact ⟨rfl, B210.out⟩
end Go.Proofs.YtbdiilkdajadcaaDoor
