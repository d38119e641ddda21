/-
  Stage 11: the examples of the chapter.
-/
import Derived.Test.YtpimdcljecipeaaJSrt
import Derived.Test.YtpimdcljecipeaaJSaneA
set_option linter.unusedSimpArgs false
set_option linter.unusedVariables false
namespace Go.Proofs.Ytpimdcljecipeaa
open Go.RowKit Go.Lib

theorem itm4_lev : Lev itm4 [1, 2, 0, 1] := by
  refine ⟨rfl, fun y hy => ?_⟩
  have h4 : y < 4 := hy
  have mk : ∀ (f : Nat → Int) (M : Int), 0 ≤ M → (f 0 ≤ M ∧ f 1 ≤ M ∧ f 2 ≤ M ∧ f 3 ≤ M) → (M = 0 ∨ f 0 = M ∨ f 1 = M ∨ f 2 = M ∨ f 3 = M) → IsMaxP (fun x => x < itm4.length) f M := fun f M h0 h1 h2 => by
    refine ⟨h0, fun x hx => ?_, ?_⟩
    · have hx4 : x < 4 := hx
      match x, hx4 with
      | 0, _ => exact h1.1
      | 1, _ => exact h1.2.1
      | 2, _ => exact h1.2.2.1
      | 3, _ => exact h1.2.2.2
    · rcases h2 with h | h | h | h | h
      · exact Or.inl h
      · exact Or.inr ⟨0, by decide, h⟩
      · exact Or.inr ⟨1, by decide, h⟩
      · exact Or.inr ⟨2, by decide, h⟩
      · exact Or.inr ⟨3, by decide, h⟩
  match y, h4 with
  | 0, _ => exact mk _ _ (by decide) (by decide) (by decide)
  | 1, _ => exact mk _ _ (by decide) (by decide) (by decide)
  | 2, _ => exact mk _ _ (by decide) (by decide) (by decide)
  | 3, _ => exact mk _ _ (by decide) (by decide) (by decide)
theorem itm4_back : IsBack itm4 [1, 2, 0, 1] 1 [2, 0, 3, 1] :=
  .step 1 3 [2, 0, 3] (by decide) (by decide) (by decide) (by decide)
    (.step 3 0 [2, 0] (by decide) (by decide) (by decide) (by decide)
      (.step 0 2 [2] (by decide) (by decide) (by decide) (by decide)
        (.one 2 (by decide))))
theorem itm4_top : IsTop [1, 2, 0, 1] 1 := ⟨by decide, by decide, by decide⟩
theorem itm4_deep {zs : List Int} (h : Deep itm4 zs) : zs = [2, 0, 3, 1] :=
  h.uniq itm4_ok ⟨fun h => absurd h (by decide), fun _ => ⟨_, 1, [2, 0, 3, 1], itm4_lev, itm4_top, itm4_back, rfl⟩⟩
theorem itm4_sorted : sortE itm4 12 [[2, 0, 3, 1]] = (true, 0) := by decide
/-- What four leaves. -/
def FourPost (w : World) (e : Ending) (w' : World) : Prop := ∃ A, e = .returned (jv A 4 4 12) ∧ IRow w' A itm4 ∧ Below w.heap.size w w'
set_option maxHeartbeats 800000 in
theorem four_any (w : World) : Calls Try.prog 10 #[] w (FourPost w) := by
  have J := (JBox.new (w := w) (A := some ⟨w.heap.size + 1, 0, none⟩) (n := 4) (c := 4) (wt := 12) w.heap.size rfl)
  have B1 := (Below.refl w.heap.size w).alloc (Nat.le_refl _) (.cells #[.slice (some ⟨w.heap.size + 1, 0, none⟩) 4 4, .int .i64 12] 25)
  have hs : (w.alloc (.cells #[.slice (some ⟨w.heap.size + 1, 0, none⟩) 4 4, .int .i64 12] 25)).heap.size = w.heap.size + 1 := by simp
  have R := IRow.new (W := w.alloc (.cells #[.slice (some ⟨w.heap.size + 1, 0, none⟩) 4 4, .int .i64 12] 25)) (T := 44) itm4 (by decide)
  have J2 := J.below ((Below.refl _ _).alloc (Nat.le_refl _) (.cells ((flatI itm4).map (Value.int .i64)).toArray 44)) J.lt
  have B2 := B1.alloc (by omega) (.cells ((flatI itm4).map (Value.int .i64)).toArray 44)
  rw [hs] at R
  have HR := Lib.hid R
  have HJ := Lib.hid J2
  have HB := Lib.hid B2
  clear J B1 hs R J2 B2
  go_enter Try.func10, Try.ntmps10
  go_wp2_with fail
  refine bodyPost_ret (results_job rfl _ _ w.heap.size 4 4 _ 12 rfl HJ.out) rfl ?_
  exact ⟨_, rfl, HR.out, HB.out⟩
theorem PP.one {w : World} {T : TypeId} {p : List Int} {a : Option Addr} {c : Nat} (h : Row .i64 w w.heap.size a p) (hm : p.length ≤ maxLen) : PP (w.alloc (.cells #[.slice a p.length c] T)) (some ⟨w.heap.size, 0, none⟩) [p] := fun k q hk => by
  have hk0 : k = 0 := by
    have := (List.getElem?_eq_some_iff.1 hk).1
    simp at this; exact this
  subst hk0
  injection hk with hk
  subst hk
  exact ⟨_, rfl, by simp, a, c, by rw [add_own, cell_new]; rfl, h.below ((Below.refl _ _).alloc (Nat.le_refl _) _), hm⟩
theorem rel_ok4 : validR itm4 12 = 0 := itm4_valid
set_option maxHeartbeats 1600000 in
theorem sane_any (w : World) : Calls Try.prog 11 #[] w fun e w' => e = .returned (.bool true) ∧ Below w.heap.size w w' := by
  go_enter Try.func11, Try.ntmps11
  go_wp2_with fail
  refine (four_any w).mono ?_
  rintro e w1 ⟨A1, rfl, R1, B1⟩
  have HB := Lib.hid B1
  have HC := Lib.hid (levels_any itm4 A1 4 12 w1 R1)
  clear R1 B1
  go_wp2_with fail
  refine HC.out.mono ?_
  rintro e w2 ⟨v, zs, rfl, O, hlev, _, B2⟩
  have hz := lev_uniq itm4_ok (hlev itm4_valid) itm4_lev
  subst hz
  rw [itm4_valid]
  obtain ⟨lA, lc, rfl, LR, _⟩ := O.slice
  have HL := Lib.hid LR
  have HB := Lib.hid (HB.out.trans (B2.mono HB.out.size))
  clear O hlev B2 LR HC
  go_wp2_with fail
  refine (four_any w2).mono ?_
  rintro e w3 ⟨A3, rfl, R3, B3⟩
  have HC := Lib.hid (deepest_any itm4 A3 4 12 w3 R3)
  have HL := Lib.hid (HL.out.below B3)
  have HB := Lib.hid (HB.out.trans (B3.mono HB.out.size))
  clear R3 B3
  go_wp2_with fail
  refine HC.out.mono ?_
  rintro e w4 ⟨v, zs, rfl, O, hdeep, _, B4⟩
  have hz := itm4_deep (hdeep itm4_valid)
  subst hz
  rw [itm4_valid]
  obtain ⟨dA, dc, rfl, DR, _⟩ := O.slice
  have HD := Lib.hid DR
  have HL := Lib.hid (HL.out.below B4)
  have HB := Lib.hid (HB.out.trans (B4.mono HB.out.size))
  clear O hdeep B4 DR HC
  go_wp2_with fail
  refine (four_any w4).mono ?_
  rintro e w5 ⟨A5, rfl, R5, B5⟩
  have HD := Lib.hid (HD.out.below B5)
  have HL := Lib.hid (HL.out.below B5)
  have HB := Lib.hid (HB.out.trans (B5.mono HB.out.size))
  have HR5 := Lib.hid R5
  clear R5 B5
  go_wp2_with fail
  have BA := (Below.refl w5.heap.size w5).alloc (Nat.le_refl _) (.cells #[.int .i64 2, .int .i64 0, .int .i64 3, .int .i64 1] 3)
  have hsz : (w5.alloc (.cells #[.int .i64 2, .int .i64 0, .int .i64 3, .int .i64 1] 3)).heap.size = w5.heap.size + 1 := by simp
  have RN := row_new (k := .i64) (W := w5) (T := 3) [2, 0, 3, 1]
  replace RN : Row .i64 (w5.alloc (.cells #[.int .i64 2, .int .i64 0, .int .i64 3, .int .i64 1] 3)) (w5.alloc (.cells #[.int .i64 2, .int .i64 0, .int .i64 3, .int .i64 1] 3)).heap.size (some ⟨w5.heap.size, 0, none⟩) [2, 0, 3, 1] := RN
  have PN := PP.one (T := 22) (c := 4) RN (by decide)
  have BC := BA.alloc (by omega) (.cells #[.slice (some ⟨w5.heap.size, 0, none⟩) 4 4] 22)
  rw [hsz] at PN
  replace PN : PP ((w5.alloc (.cells #[.int .i64 2, .int .i64 0, .int .i64 3, .int .i64 1] 3)).alloc (.cells #[.slice (some ⟨w5.heap.size, 0, none⟩) 4 4] 22)) (some ⟨w5.heap.size + 1, 0, none⟩) [[2, 0, 3, 1]] := PN
  clear BA hsz RN
  generalize (w5.alloc (.cells #[.int .i64 2, .int .i64 0, .int .i64 3, .int .i64 1] 3)).alloc (.cells #[.slice (some ⟨w5.heap.size, 0, none⟩) 4 4] 22) = w6 at PN BC ⊢
  refine (sorted_any itm4 A5 4 12 [[2, 0, 3, 1]] _ 1 w6 (HR5.out.below BC) PN (by decide)).mono ?_
  rw [itm4_sorted]
  rintro e w7 ⟨rfl, B7⟩
  have HD := Lib.hid ((HD.out.below BC).below B7)
  have HL := Lib.hid ((HL.out.below BC).below B7)
  have HB := Lib.hid ((HB.out.trans (BC.mono HB.out.size)).trans (B7.mono (HB.out.trans (BC.mono HB.out.size)).size))
  clear PN BC B7 HR5
  have L1 := Lib.hid (HL.out.below ((Below.refl _ _).alloc (Nat.le_refl _) (.cells #[.int .i64 1, .int .i64 2, .int .i64 0, .int .i64 1] 3)))
  have L2 := Lib.hid (row_new (k := .i64) (W := w7) (T := 3) [1, 2, 0, 1])
  have HD := Lib.hid (HD.out.below ((Below.refl _ _).alloc (Nat.le_refl _) (.cells #[.int .i64 1, .int .i64 2, .int .i64 0, .int .i64 1] 3)))
  have HB := Lib.hid (HB.out.alloc HB.out.size (.cells #[.int .i64 1, .int .i64 2, .int .i64 0, .int .i64 1] 3))
  clear HL
  go_wp2_with fail
  refine (ints_same [1, 2, 0, 1] lA _ lc 4 _ L1.out L2.out (by decide)).mono ?_
  rintro e w8 ⟨rfl, n, hw8⟩
  have HD := Lib.hid (show Row .i64 w8 w8.heap.size dA [2, 0, 3, 1] by rw [hw8]; exact HD.out.drewN n)
  have HB := Lib.hid (show Below w.heap.size w w8 by rw [hw8]; exact bdn HB.out)
  clear L1 L2 hw8
  have L1 := Lib.hid (HD.out.below ((Below.refl _ _).alloc (Nat.le_refl _) (.cells #[.int .i64 2, .int .i64 0, .int .i64 3, .int .i64 1] 3)))
  have L2 := Lib.hid (row_new (k := .i64) (W := w8) (T := 3) [2, 0, 3, 1])
  have HB := Lib.hid (HB.out.alloc HB.out.size (.cells #[.int .i64 2, .int .i64 0, .int .i64 3, .int .i64 1] 3))
  clear HD
  go_wp2_with fail
  refine (ints_same [2, 0, 3, 1] dA _ dc 4 _ L1.out L2.out (by decide)).mono ?_
  rintro e w9 ⟨rfl, n, hw9⟩
  have HB := Lib.hid (show Below w.heap.size w w9 by rw [hw9]; exact bdn HB.out)
  clear L1 L2 hw9
  go_wp2_with fail
  go_ret
  exact ⟨rfl, HB.out⟩
end Go.Proofs.Ytpimdcljecipeaa
