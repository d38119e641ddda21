/-
  Stage 13: the examples of the chapter.
-/
import Derived.Test.YtcplanafcnnodaaYLeast
import Derived.Test.YtcplanafcnnodaaYBnd
set_option linter.unusedSimpArgs false
set_option linter.unusedVariables false
namespace Go.Proofs.Ytcplanafcnnodaa
open Go.RowKit Go.Lib

theorem all4 {P : Nat → Prop} (h0 : P 0) (h1 : P 1) (h2 : P 2) (h3 : P 3) : ∀ y, y < 4 → P y := fun y hy => by
  match y, hy with
  | 0, _ => exact h0
  | 1, _ => exact h1
  | 2, _ => exact h2
  | 3, _ => exact h3
theorem max4 (f : Nat → Int) (M : Int) (h0 : 0 ≤ M) (h1 : f 0 ≤ M ∧ f 1 ≤ M ∧ f 2 ≤ M ∧ f 3 ≤ M) (h2 : M = 0 ∨ f 0 = M ∨ f 1 = M ∨ f 2 = M ∨ f 3 = M) : IsMaxP (fun x => x < itm4.length) f M := by
  refine ⟨h0, fun x hx => all4 (P := fun x => f x ≤ M) h1.1 h1.2.1 h1.2.2.1 h1.2.2.2 x hx, ?_⟩
  rcases h2 with h | h | h | h | h
  · exact Or.inl h
  · exact Or.inr ⟨0, by decide, h⟩
  · exact Or.inr ⟨1, by decide, h⟩
  · exact Or.inr ⟨2, by decide, h⟩
  · exact Or.inr ⟨3, by decide, h⟩
set_option maxRecDepth 100000 in
theorem next4 : nextZ 0 0 12 = (0, 0) ∧ nextZ 1 0 12 = (1, 0) ∧ nextZ 2 0 12 = (2, 0) ∧ nextZ 1 0 0 = (0, 15) ∧ nextZ 0 3 0 = (7, 0) := by decide +kernel
theorem itm4_sol : Sol itm4 12 [1, 2, 0, 1] [1, 2, 0, 1] := by
  refine ⟨rfl, rfl, fun _ h => h, fun x y _ hx _ => hx, ?_, ?_, fun y hy => ?_⟩
  · exact all4 (P := fun y => IsMaxP (fun x => x < itm4.length) (fun x => via itm4 [1, 2, 0, 1] x y) (List.getD [1, 2, 0, 1] y 0)) (max4 _ _ (by decide) (by decide) (by decide)) (max4 _ _ (by decide) (by decide) (by decide)) (max4 _ _ (by decide) (by decide) (by decide)) (max4 _ _ (by decide) (by decide) (by decide))
  · exact all4 (P := fun y => nextZ (List.getD [1, 2, 0, 1] y 0) (rnd itm4 y) 12 = (List.getD [1, 2, 0, 1] y 0, 0)) next4.2.1 next4.2.2.1 next4.1 next4.2.1
  · have h4 : 4 ≤ y := Nat.not_lt.1 hy
    have e : List.getD ([1, 2, 0, 1] : List Int) y 0 = 0 := by rw [List.getD_eq_getElem?_getD, List.getElem?_eq_none (by simpa using h4)]; rfl
    exact ⟨e, e⟩
theorem itm4_v0 : validR itm4 0 = 0 := by decide
theorem itm4_no : ∀ bs v, ¬ Sol itm4 0 bs v := fun bs v h => by
  have hf := formOk_of itm4_v0
  have hb := h.bound hf
  have h2 := (h.base 0 (by decide)).le 2 (by decide)
  have e : via itm4 v 2 0 = v.getD 2 0 + 1 := rfl
  have h3 : 1 ≤ bs.getD 0 0 := by
    have h4 : via itm4 v 2 0 ≤ bs.getD 0 0 := h2
    have := (hb 2).1
    omega
  obtain ⟨j, hj, _⟩ := next_mono (a := 1) (by omega) h3 (hf.rb 0 (by decide)) hf.wb (h.code 0 (by decide))
  have h5 : nextZ 1 0 0 = (j, 0) := hj
  rw [next4.2.2.2.1] at h5
  injection h5 with _ h5
  omega
abbrev itm1 : List It := [(0, 0, 3, 80)]
theorem itm1_v : validR itm1 0 = 0 := by decide
theorem itm1_sol : Sol itm1 0 [0] [7] := by
  have e1 : ∀ y, y < itm1.length → y = 0 := fun y hy => by have : y < 1 := hy; omega
  refine ⟨rfl, rfl, fun _ h => h, fun x y _ hx _ => hx, fun y hy => ?_, fun y hy => ?_, fun y hy => ?_⟩
  · obtain rfl := e1 y hy
    exact ⟨by decide, fun x hx => by obtain rfl := e1 x hx
                                     decide, Or.inl rfl⟩
  · obtain rfl := e1 y hy
    exact next4.2.2.2.2
  · have h4 : 1 ≤ y := Nat.not_lt.1 hy
    refine ⟨?_, ?_⟩
    · rw [List.getD_eq_getElem?_getD, List.getElem?_eq_none (by simpa using h4)]; rfl
    · rw [List.getD_eq_getElem?_getD, List.getElem?_eq_none (by simpa using h4)]; rfl
theorem itm4_steps : StepsOf [1, 2, 0, 1] 2 := Or.inr ⟨2, ⟨all4 (P := fun x => List.getD ([1, 2, 0, 1] : List Int) x 0 ≤ 2) (by decide) (by decide) (by decide) (by decide), 1, by decide, rfl⟩, by decide⟩
theorem itm1_top : TopV [7] 1 7 := ⟨fun x hx => by
  obtain rfl : x = 0 := by omega
  decide, 0, by decide, rfl⟩
theorem itm1_steps : StepsOf [7] 3 := Or.inr ⟨7, itm1_top, by decide⟩
theorem itm4_least : LeastR itm4 12 2 [1, 2, 0, 1] 0 := Or.inr (Or.inr ⟨itm4_valid, rfl, ⟨_, itm4_sol⟩, itm4_steps⟩)
theorem itm4_least0 : LeastR itm4 0 0 [] 15 := Or.inr (Or.inl ⟨itm4_v0, rfl, rfl, rfl, itm4_no⟩)
theorem itm1_least : LeastR itm1 0 3 [7] 0 := Or.inr (Or.inr ⟨itm1_v, rfl, ⟨_, itm1_sol⟩, itm1_steps⟩)
set_option maxRecDepth 100000 in
theorem itm4_bound : boundE itm4 12 [2, 0, 3, 1] = (2, 0) := by decide +kernel
theorem itm4_backB : IsBackB itm4 [1, 2, 0, 1] [1, 2, 0, 1] 1 [2, 0, 3, 1] :=
  .step 1 3 [2, 0, 3] (by decide) (by decide) (by decide) (by decide)
    (.step 3 0 [2, 0] (by decide) (by decide) (by decide) (by decide)
      (.step 0 2 [2] (by decide) (by decide) (by decide) (by decide)
        (.one 2 (by decide))))
theorem itm4_wit : WitR itm4 12 [2, 0, 3, 1] 0 := Or.inr (Or.inr ⟨itm4_valid, rfl, _, _, itm4_sol, Or.inr ⟨1, [2, 0, 3, 1], ⟨by decide, by decide, by decide⟩, itm4_backB, rfl⟩⟩)
/-- What four leaves. -/
def Four13 (wt : Int) (w : World) (e : Ending) (w' : World) : Prop := ∃ A, e = .returned (jv A 4 4 wt) ∧ IRow w' A itm4 ∧ Below w.heap.size w w'
set_option maxHeartbeats 800000 in
theorem four13_any (wt : Int) (w : World) : Calls Try.prog 21 #[.int .i64 wt] w (Four13 wt w) := by
  have J := (JBox.new (w := w) (A := some ⟨w.heap.size + 1, 0, none⟩) (n := 4) (c := 4) (wt := wt) w.heap.size rfl)
  have B1 := (Below.refl w.heap.size w).alloc (Nat.le_refl _) (.cells #[.slice (some ⟨w.heap.size + 1, 0, none⟩) 4 4, .int .i64 wt] 24)
  have hs : (w.alloc (.cells #[.slice (some ⟨w.heap.size + 1, 0, none⟩) 4 4, .int .i64 wt] 24)).heap.size = w.heap.size + 1 := by simp
  have R := IRow.new (W := w.alloc (.cells #[.slice (some ⟨w.heap.size + 1, 0, none⟩) 4 4, .int .i64 wt] 24)) (T := 26) itm4 (by decide)
  have J2 := J.below ((Below.refl _ _).alloc (Nat.le_refl _) (.cells ((flatI itm4).map (Value.int .i64)).toArray 26)) J.lt
  have B2 := B1.alloc (by omega) (.cells ((flatI itm4).map (Value.int .i64)).toArray 26)
  rw [hs] at R
  have HR := Lib.hid R
  have HJ := Lib.hid J2
  have HB := Lib.hid B2
  clear J B1 hs R J2 B2
  go_enter Try.func21, Try.ntmps21
  go_wp2_with fail
  refine bodyPost_ret (results_job rfl _ _ w.heap.size 4 4 _ wt rfl HJ.out) rfl ?_
  exact ⟨_, rfl, HR.out, HB.out⟩
set_option maxRecDepth 100000 in
set_option maxHeartbeats 3200000 in
theorem sane13_any (w : World) : Calls Try.prog 15 #[] w fun e w' => e = .returned (.bool true) ∧ Below w.heap.size w w' := by
  go_enter Try.func15, Try.ntmps15
  go_wp2_with fail
  refine (four13_any 12 w).mono ?_
  rintro e w1 ⟨A1, rfl, R1, B1⟩
  have HB := Lib.hid B1
  have HC := Lib.hid (least_any itm4 A1 4 4 12 rfl w1 R1)
  clear R1 B1
  go_wp2_with fail
  refine HC.out.mono ?_
  rintro e w2 ⟨st, pA, pn, pc, er, v, rfl, O, B2, hr⟩
  obtain ⟨rfl, rfl, rfl⟩ := hr.uniq itm4_least
  obtain ⟨pA', pc', ev, LR, -, -, -⟩ := O.slice
  obtain rfl : pA = pA' := by injection ev
  obtain rfl : pn = 4 := by injection ev
  have BX := (Below.refl w2.heap.size w2).alloc (Nat.le_refl _) (.cells #[.int .i64 2, .slice pA 4 pc] 29)
  have P1 := Lib.hid (PBox.new (w := w2) (st := 2) (A := pA) (n := 4) (c := pc) w2.heap.size rfl)
  have HL := Lib.hid (LR.below BX)
  have HB := Lib.hid ((HB.out.trans (B2.mono HB.out.size)).trans (BX.mono (HB.out.trans (B2.mono HB.out.size)).size))
  clear O B2 hr HC ev LR pc' BX
  go_upto_region 2 with fail
  obtain ⟨g1, hg1⟩ : ∃ g, g = w2.heap.size := ⟨_, rfl⟩
  rw [← hg1] at P1 ⊢
  generalize w2.alloc (.cells #[.int .i64 2, .slice pA 4 pc] 29) = w3 at *
  clear hg1
  go_wp2_with fail
  refine (four13_any 0 w3).mono ?_
  rintro e w4 ⟨A4, rfl, R4, B4⟩
  have P1 := Lib.hid (P1.out.below B4 P1.out.lt)
  have HL := Lib.hid (HL.out.below B4)
  have HB := Lib.hid (HB.out.trans (B4.mono HB.out.size))
  have HC := Lib.hid (least_any itm4 A4 4 4 0 rfl w4 R4)
  clear R4 B4
  go_wp2_with fail
  refine HC.out.mono ?_
  rintro e w5 ⟨st, qA, qn, qc, er, v, rfl, O, B5, hr⟩
  obtain ⟨rfl, rfl, rfl⟩ := hr.uniq itm4_least0
  have BX := (Below.refl w5.heap.size w5).alloc (Nat.le_refl _) (.cells #[.int .i64 0, .slice qA qn qc] 29)
  have P1 := Lib.hid ((P1.out.below B5 P1.out.lt).below BX (by have := P1.out.lt; have := B5.size; omega))
  have HL := Lib.hid ((HL.out.below B5).below BX)
  have HB := Lib.hid ((HB.out.trans (B5.mono HB.out.size)).trans (BX.mono (HB.out.trans (B5.mono HB.out.size)).size))
  clear O B5 hr HC BX
  go_upto_region 3 with fail
  generalize hw6 : w5.alloc (.cells #[.int .i64 0, .slice qA qn qc] 29) = w6 at *
  clear hw6
  have R6 := Lib.hid (IRow.new (W := w6) (T := 26) itm1 (by decide))
  have BX := (Below.refl w6.heap.size w6).alloc (Nat.le_refl _) (.cells #[.int .i64 0, .int .i64 0, .int .i64 3, .int .i64 80] 26)
  have P1 := Lib.hid (P1.out.below BX P1.out.lt)
  have HL := Lib.hid (HL.out.below BX)
  have HB := Lib.hid (HB.out.trans (BX.mono HB.out.size))
  clear BX
  have HC := Lib.hid (least_any itm1 (some ⟨w6.heap.size, 0, none⟩) 1 1 0 rfl (w6.alloc (.cells #[.int .i64 0, .int .i64 0, .int .i64 3, .int .i64 80] 26)) R6.out)
  clear R6
  go_wp2_with fail
  generalize w6.alloc (.cells #[.int .i64 0, .int .i64 0, .int .i64 3, .int .i64 80] 26) = w7 at *
  refine HC.out.mono ?_
  rintro e w8 ⟨st, rA, rn, rc, er, v, rfl, O, B8, hr⟩
  obtain ⟨rfl, rfl, rfl⟩ := hr.uniq itm1_least
  obtain ⟨rA', rc', ev, LR, -, -, -⟩ := O.slice
  obtain rfl : rA = rA' := by injection ev
  obtain rfl : rn = 1 := by injection ev
  have BX := (Below.refl w8.heap.size w8).alloc (Nat.le_refl _) (.cells #[.int .i64 3, .slice rA 1 rc] 29)
  have P2 := Lib.hid (PBox.new (w := w8) (st := 3) (A := rA) (n := 1) (c := rc) w8.heap.size rfl)
  have HM := Lib.hid (LR.below BX)
  have P1 := Lib.hid ((P1.out.below B8 P1.out.lt).below BX (by have := P1.out.lt; have := B8.size; omega))
  have HL := Lib.hid ((HL.out.below B8).below BX)
  have HB := Lib.hid ((HB.out.trans (B8.mono HB.out.size)).trans (BX.mono (HB.out.trans (B8.mono HB.out.size)).size))
  clear O B8 hr HC ev LR rc' BX
  go_upto_region 4 with fail
  obtain ⟨g2, hg2⟩ : ∃ g, g = w8.heap.size := ⟨_, rfl⟩
  rw [← hg2] at P2 ⊢
  generalize w8.alloc (.cells #[.int .i64 3, .slice rA 1 rc] 29) = w9 at *
  clear hg2
  go_wp2_with fail
  refine (four13_any 12 w9).mono ?_
  rintro e w10 ⟨A10, rfl, R10, B10⟩
  have BX := (Below.refl w10.heap.size w10).alloc (Nat.le_refl _) (.cells #[.int .i64 2, .int .i64 0, .int .i64 3, .int .i64 1] 3)
  have RN := row_new (k := .i64) (W := w10) (T := 3) [2, 0, 3, 1]
  replace RN : Row .i64 (w10.alloc (.cells #[.int .i64 2, .int .i64 0, .int .i64 3, .int .i64 1] 3)) (w10.alloc (.cells #[.int .i64 2, .int .i64 0, .int .i64 3, .int .i64 1] 3)).heap.size (some ⟨w10.heap.size, 0, none⟩) [2, 0, 3, 1] := RN
  have HC := Lib.hid (bound_any itm4 A10 (some ⟨w10.heap.size, 0, none⟩) 4 4 4 4 12 rfl [2, 0, 3, 1] rfl (by decide) _ (R10.below BX) RN)
  rw [itm4_bound] at HC
  have P1 := Lib.hid ((P1.out.below B10 P1.out.lt).below BX (by have := P1.out.lt; have := B10.size; omega))
  have P2 := Lib.hid ((P2.out.below B10 P2.out.lt).below BX (by have := P2.out.lt; have := B10.size; omega))
  have HL := Lib.hid ((HL.out.below B10).below BX)
  have HM := Lib.hid ((HM.out.below B10).below BX)
  have HB := Lib.hid ((HB.out.trans (B10.mono HB.out.size)).trans (BX.mono (HB.out.trans (B10.mono HB.out.size)).size))
  clear R10 B10 BX RN
  go_wp2_with fail
  generalize w10.alloc (.cells #[.int .i64 2, .int .i64 0, .int .i64 3, .int .i64 1] 3) = w11 at *
  refine HC.out.mono ?_
  rintro e w12 ⟨rfl, B12⟩
  have P1 := Lib.hid (P1.out.below B12 P1.out.lt)
  have P2 := Lib.hid (P2.out.below B12 P2.out.lt)
  have HL := Lib.hid (HL.out.below B12)
  have HM := Lib.hid (HM.out.below B12)
  have HB := Lib.hid (HB.out.trans (B12.mono HB.out.size))
  clear B12 HC
  go_wp2_with fail
  refine (four13_any 12 w12).mono ?_
  rintro e w13 ⟨A13, rfl, R13, B13⟩
  have HC := Lib.hid (witness_any itm4 A13 4 4 12 rfl w13 R13)
  have P1 := Lib.hid (P1.out.below B13 P1.out.lt)
  have P2 := Lib.hid (P2.out.below B13 P2.out.lt)
  have HL := Lib.hid (HL.out.below B13)
  have HM := Lib.hid (HM.out.below B13)
  have HB := Lib.hid (HB.out.trans (B13.mono HB.out.size))
  clear R13 B13
  go_wp2_with fail
  refine HC.out.mono ?_
  rintro e w14 ⟨u, er, zs, rfl, O, B14, hr⟩
  obtain ⟨rfl, rfl⟩ := hr.uniq itm4_wit
  obtain ⟨uA, uc, rfl, LR, -, -, -⟩ := O.slice
  have HU := Lib.hid LR
  have P1 := Lib.hid (P1.out.below B14 P1.out.lt)
  have P2 := Lib.hid (P2.out.below B14 P2.out.lt)
  have HL := Lib.hid (HL.out.below B14)
  have HM := Lib.hid (HM.out.below B14)
  have HB := Lib.hid (HB.out.trans (B14.mono HB.out.size))
  clear O B14 hr HC LR
  have BX := (Below.refl w14.heap.size w14).alloc (Nat.le_refl _) (.cells #[.int .i64 1, .int .i64 2, .int .i64 0, .int .i64 1] 3)
  have R1 := Lib.hid (HL.out.below BX)
  have R2 := Lib.hid (row_new (k := .i64) (W := w14) (T := 3) [1, 2, 0, 1])
  obtain ⟨p0, p1, pf, pl⟩ := P1.out
  go_wp2_with fail
  refine (ints_same [1, 2, 0, 1] pA _ pc 4 _ R1.out R2.out (by decide)).mono ?_
  rintro e w15 ⟨rfl, n, hw15⟩
  have BY : Below w14.heap.size w14 w15 := by rw [hw15]; exact bdn BX
  have P2 := Lib.hid (P2.out.below BY P2.out.lt)
  have HM := Lib.hid (HM.out.below BY)
  have HU := Lib.hid (HU.out.below BY)
  have HB := Lib.hid (HB.out.trans (BY.mono HB.out.size))
  clear p0 p1 pf pl P1 HL R1 R2 BX BY hw15
  have BX := (Below.refl w15.heap.size w15).alloc (Nat.le_refl _) (.cells #[.int .i64 7] 3)
  have R1 := Lib.hid (HM.out.below BX)
  have R2 := Lib.hid (row_new (k := .i64) (W := w15) (T := 3) [7])
  obtain ⟨p0, p1, pf, pl⟩ := P2.out
  go_wp2_with fail
  refine (ints_same [7] rA _ rc 1 _ R1.out R2.out (by decide)).mono ?_
  rintro e w16 ⟨rfl, n, hw16⟩
  have BY : Below w15.heap.size w15 w16 := by rw [hw16]; exact bdn BX
  have HU := Lib.hid (HU.out.below BY)
  have HB := Lib.hid (HB.out.trans (BY.mono HB.out.size))
  clear p0 p1 pf pl P2 HM R1 R2 BX BY hw16
  have BX := (Below.refl w16.heap.size w16).alloc (Nat.le_refl _) (.cells #[.int .i64 2, .int .i64 0, .int .i64 3, .int .i64 1] 3)
  have R1 := Lib.hid (HU.out.below BX)
  have R2 := Lib.hid (row_new (k := .i64) (W := w16) (T := 3) [2, 0, 3, 1])
  go_wp2_with fail
  refine (ints_same [2, 0, 3, 1] uA _ uc 4 _ R1.out R2.out (by decide)).mono ?_
  rintro e w17 ⟨rfl, n, hw17⟩
  have BY : Below w16.heap.size w16 w17 := by rw [hw17]; exact bdn BX
  have HB := Lib.hid (HB.out.trans (BY.mono HB.out.size))
  clear R1 R2 BX BY hw17
  go_wp2_with fail
  go_ret
  exact ⟨rfl, HB.out⟩
end Go.Proofs.Ytcplanafcnnodaa
