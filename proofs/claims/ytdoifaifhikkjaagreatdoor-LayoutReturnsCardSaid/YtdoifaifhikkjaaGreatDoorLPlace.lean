/-
  Stage 9: the place of an element among the earlier ones (the program).
-/
import Derived.Test.YtdoifaifhikkjaaGreatDoorLSound
set_option linter.unusedSimpArgs false
set_option linter.unusedVariables false
namespace Go.Proofs.YtdoifaifhikkjaaGreatDoor
open Go.RowKit Go.Lib Go.Shelf

/-- The slice's address is plain. -/
def PlainA (A : Option Addr) : Prop := ∀ ad, A = some ad → ad = ⟨ad.block, ad.off, none⟩
theorem PlainA.none : PlainA .none := fun _ h => by cases h
theorem PlainA.some (b o : Nat) : PlainA (some ⟨b, o, .none⟩) := fun _ h => by injection h with h; subst h; rfl
def tkn (x y : El) : Bool := decide (y.par = x.par) && decide (y.side = x.side)
set_option maxHeartbeats 800000 in
theorem taken_pred (x : El) (w : World) (b : Nat) (hB : EBlk w b x) : PredBelow Tryz.prog 39 #[.pointer (some ⟨b, 0, none⟩)] (fun y => .agg (cellsE y).toArray) (tkn x) w := by
  intro W y hb
  show Calls Tryz.prog 39 #[aggE y, .pointer (some ⟨b, 0, none⟩)] W _
  have d2 := (hb.cell (p := ⟨b, 2, none⟩) hB.lt).trans hB.c2
  have d3 := (hb.cell (p := ⟨b, 3, none⟩) hB.lt).trans hB.c3
  have hlt := Nat.lt_of_lt_of_le hB.lt hb.size
  have bel : Below W.heap.size W (W.alloc (.cells #[.int .i64 y.kind, .string y.name, .int .i64 y.par, .int .i64 y.side, .int .i64 y.len, .int .i64 y.gra, .int .i64 y.cur, .int .i64 y.pow] 39)) := (Below.refl _ _).alloc (Nat.le_refl _) _
  have e2 := (bel.cell (p := ⟨b, 2, none⟩) hlt).trans d2
  have e3 := (bel.cell (p := ⟨b, 3, none⟩) hlt).trans d3
  have BB := Lib.hid (hb.trans (bel.mono hb.size))
  have HX := EBlk.of (newE W y 39 W.heap.size rfl)
  obtain ⟨yk, yn, yp, ys, yl, yg, yc, yo⟩ := y
  obtain ⟨xk, xn, xp, xs, xl, xg, xc, xo⟩ := x
  simp only at e2 e3
  have f2 := HX.c2
  have f3 := HX.c3
  simp only at f2 f3
  clear hB hb d2 d3 bel HX
  generalize hW1 : W.alloc (.cells #[.int .i64 yk, .string yn, .int .i64 yp, .int .i64 ys, .int .i64 yl, .int .i64 yg, .int .i64 yc, .int .i64 yo] 39) = W1 at e2 e3 f2 f3 BB
  go_enter Tryz.func39, Tryz.ntmps39
  go_upto_region 1 with fail
  generalize W.heap.size = bW at f2 f3 ⊢
  clear hW1 hlt
  by_cases hp : yp = xp
  · subst hp
    go_wp2_with fail
    go_ret
    exact ⟨ret_bool (by unfold tkn; by_cases hs : ys = xs <;> simp [hs]), BB.out⟩
  · have e0 : (yp == xp) = false := beq_eq_false_iff_ne.2 hp
    have HP := Lib.hid hp
    clear hp
    go_wp2_with fail
    go_ret
    exact ⟨ret_bool (by unfold tkn; simp [HP.out]), BB.out⟩
theorem any_tkn (x : El) (l : List El) : (l.take l.length).any (tkn x) = takenE x l := by rw [List.take_length]; rfl
theorem aggEl (w : World) : (isAgg 39).run Tryz.prog w = .ok true w := by kernel_rfl
theorem sizeEl (w : World) : (Go.sizeOf 39).run Tryz.prog w = .ok 8 w := by kernel_rfl
theorem RRow.cellsAt {w : World} {b o : Nat} {l : List El} (h : RRow ER w (some ⟨b, o, none⟩) l) : ∀ j, j < l.length → ∀ i v, (cellsE l[j]!)[i]? = some v → w.cell? ⟨b, o + j * 8 + i, none⟩ = some v := by
  intro j hj i v hi
  have hx : l[j]? = some l[j]! := by rw [List.getElem?_eq_getElem hj, List.getElem!_eq_getElem?_getD, List.getElem?_eq_getElem hj]; rfl
  obtain ⟨ad, e, C⟩ := h.at_ hx
  injection e with e
  subst e
  have hm : ER.m = 8 := rfl
  have := C.cs i v hi
  rw [hm] at this
  rw [← this]
  congr 1
  unfold Addr.add
  split
  · rename_i hz; simp [hz]
  · simp [Nat.add_assoc]
set_option maxHeartbeats 1600000 in
theorem place_any (x : El) (l : List El) (A : Option Addr) (c : Nat) (w : World) (h : RRow ER w A l) (hA : PlainA A) :
    Calls Tryz.prog 23 #[aggE x, .slice A l.length c] w fun e w' => e = .returned (.int .i64 (placeE x l)) ∧ Below w.heap.size w w' := by
  have hl : l.length ≤ 9223372036854775807 := h.len
  have bel : Below w.heap.size w (w.alloc (.cells #[.int .i64 x.kind, .string x.name, .int .i64 x.par, .int .i64 x.side, .int .i64 x.len, .int .i64 x.gra, .int .i64 x.cur, .int .i64 x.pow] 39)) := (Below.refl _ _).alloc (Nat.le_refl _) _
  have HX := EBlk.of (newE w x 39 w.heap.size rfl)
  have H := h.below bel
  obtain ⟨L, hL⟩ : ∃ n, n = l.length := ⟨_, rfl⟩
  have HL := Lib.hid hL
  have HE : Hid (∀ v : Int, placeE x l = v → (Ending.returned (Value.int .i64 v)) = .returned (.int .i64 (placeE x l))) := Lib.hid (fun v hv => by rw [hv])
  have hdef : placeE x l = placeE x l := rfl
  rw [← hL] at hl ⊢
  obtain ⟨k, nm, pa, si, le, gr, cu, po⟩ := x
  have BW := Lib.hid bel
  have HH := Lib.hid H
  have HB := Lib.hid HX
  have hc0 := HX.c0
  have hc2 := HX.c2
  have hc3 := HX.c3
  simp only at hc0 hc2 hc3
  clear h H bel hL hdef HX
  by_cases h0 : k = 0
  · have e0 : (k == 0) = true := beq_iff_eq.2 h0
    have HV := Lib.hid (show placeE ⟨k, nm, pa, si, le, gr, cu, po⟩ l = 0 by unfold placeE; rw [if_pos h0])
    clear h0
    go_enter Tryz.func23, Tryz.ntmps23
    go_wp2_with fail
    go_ret
    exact ⟨HE.out _ HV.out, BW.out⟩
  · have e0 : (k == 0) = false := beq_eq_false_iff_ne.2 h0
    by_cases h1 : pa < 0
    · have HV := Lib.hid (show placeE ⟨k, nm, pa, si, le, gr, cu, po⟩ l = 12 by unfold placeE; rw [if_neg h0, if_pos (Or.inl h1)])
      clear h0
      go_enter Tryz.func23, Tryz.ntmps23
      go_wp2_with fail
      go_ret
      exact ⟨HE.out _ HV.out, BW.out⟩
    · by_cases h2 : (L : Int) ≤ pa
      · have HV := Lib.hid (show placeE ⟨k, nm, pa, si, le, gr, cu, po⟩ l = 12 by unfold placeE; rw [if_neg h0, if_pos (Or.inr (by rw [← HL.out]; exact h2))])
        clear h0
        go_enter Tryz.func23, Tryz.ntmps23
        go_wp2_with fail
        go_ret
        exact ⟨HE.out _ HV.out, BW.out⟩
      · obtain ⟨p, rfl⟩ : ∃ p : Nat, pa = p := ⟨pa.toNat, by omega⟩
        have hp : p < L := by omega
        obtain ⟨y, hy⟩ : ∃ y, l[p]? = some y := ⟨_, List.getElem?_eq_getElem (by rw [← HL.out]; exact hp)⟩
        have hgd : l.getD ((p : Int)).toNat zeroE = y := by simp [List.getD, hy]
        have HV := Lib.hid (show placeE ⟨k, nm, p, si, le, gr, cu, po⟩ l = (if y.kind = 4 ∨ ¬ (si ≠ 0 ↔ y.kind = 3) ∨ takenE ⟨k, nm, p, si, le, gr, cu, po⟩ l = true then 17 else 0) by
          unfold placeE; simp only; rw [if_neg h0, if_neg (by rw [← HL.out]; omega), hgd])
        obtain ⟨ad, rfl, C⟩ := HH.out.at_ hy
        have hAd := hA ad rfl
        have hcy := (ESpelt.of C).c0
        have hcon := AnyQ.slices_ContainsFunc contF 8 aggEl sizeEl cellsE (fun _ => rfl) (tkn ⟨k, nm, p, si, le, gr, cu, po⟩) 39 #[.pointer (some ⟨w.heap.size, 0, none⟩)] (enters_of Tryz.func39 (by kernel_rfl) rfl) ad.block ad.off L c l _ (taken_pred ⟨k, nm, p, si, le, gr, cu, po⟩ _ _ HB.out) (by rw [HL.out]; exact Nat.le_refl _) hl C.lt (RRow.cellsAt (by rw [← hAd]; exact HH.out))
        change Calls Tryz.prog 38 _ _ _ at hcon
        rw [← hAd, show (l.take L).any (tkn ⟨k, nm, p, si, le, gr, cu, po⟩) = takenE ⟨k, nm, p, si, le, gr, cu, po⟩ l by rw [HL.out]; exact any_tkn _ _] at hcon
        obtain ⟨b, hb⟩ : ∃ b, b = takenE ⟨k, nm, p, si, le, gr, cu, po⟩ l := ⟨_, rfl⟩
        rw [← hb] at hcon
        have HT := Lib.hid hb
        obtain ⟨yk, hyk⟩ : ∃ z, z = y.kind := ⟨_, rfl⟩
        rw [← hyk] at hcy
        have HY := Lib.hid hyk
        have HP := Lib.hid hAd
        have H0 := Lib.hid h0
        have d1 : ¬ ((p : Int) < 0) := by omega
        have d2 : ¬ ((L : Int) ≤ (p : Int)) := by omega
        clear hb hyk hgd C hy hAd hA h0 h1 h2
        go_enter Tryz.func23, Tryz.ntmps23
        go_wp2_with fail
        refine hcon.mono ?_
        rintro e w' ⟨rfl, B1⟩
        have BB := Lib.hid (below1 B1)
        clear B1 hcon hc0 hc2 hc3 hcy
        have hfin : ∀ v : Int, v = (if yk = 4 ∨ ¬ (si ≠ 0 ↔ yk = 3) ∨ b = true then 17 else 0) → placeE ⟨k, nm, p, si, le, gr, cu, po⟩ l = v := fun v hv => by rw [HV.out, hv, ← HY.out, ← HT.out]
        have HF := Lib.hid hfin
        clear hfin HV HT HY
        by_cases g4 : yk = 4
        · have e4 : (yk == 4) = true := beq_iff_eq.2 g4
          have HQ := Lib.hid (HF.out 17 (by rw [if_pos (Or.inl g4)]))
          clear g4
          go_wp2_with fail
          go_ret
          exact ⟨HE.out _ HQ.out, BB.out⟩
        · have e4 : (yk == 4) = false := beq_eq_false_iff_ne.2 g4
          by_cases g0 : si = 0
          · have f0 : (si != 0) = false := by rw [g0]; rfl
            by_cases g3 : yk = 3
            · have e3 : (yk == 3) = true := beq_iff_eq.2 g3
              have HQ := Lib.hid (HF.out 17 (by rw [if_pos (Or.inr (Or.inl (fun g => (g.2 g3) g0)))]))
              clear g4 g0 g3
              go_wp2_with fail
              go_ret
              exact ⟨HE.out _ HQ.out, BB.out⟩
            · have e3 : (yk == 3) = false := beq_eq_false_iff_ne.2 g3
              cases b with
              | true =>
                have HQ := Lib.hid (HF.out 17 (by rw [if_pos (Or.inr (Or.inr rfl))]))
                clear g4 g0 g3
                go_wp2_with fail
                go_ret
                exact ⟨HE.out _ HQ.out, BB.out⟩
              | false =>
                have HQ := Lib.hid (HF.out 0 (by rw [if_neg]; rintro (g | g | g); exact g4 g; exact g ⟨fun q => absurd g0 q, fun q => absurd q g3⟩; cases g))
                clear g4 g0 g3
                go_wp2_with fail
                go_ret
                exact ⟨HE.out _ HQ.out, BB.out⟩
          · have f0 : (si != 0) = true := bne_iff_ne.2 g0
            by_cases g3 : yk = 3
            · have e3 : (yk == 3) = true := beq_iff_eq.2 g3
              cases b with
              | true =>
                have HQ := Lib.hid (HF.out 17 (by rw [if_pos (Or.inr (Or.inr rfl))]))
                clear g4 g0 g3
                go_wp2_with fail
                go_ret
                exact ⟨HE.out _ HQ.out, BB.out⟩
              | false =>
                have HQ := Lib.hid (HF.out 0 (by rw [if_neg]; rintro (g | g | g); exact g4 g; exact g ⟨fun _ => g3, fun _ => g0⟩; cases g))
                clear g4 g0 g3
                go_wp2_with fail
                go_ret
                exact ⟨HE.out _ HQ.out, BB.out⟩
            · have e3 : (yk == 3) = false := beq_eq_false_iff_ne.2 g3
              have HQ := Lib.hid (HF.out 17 (by rw [if_pos (Or.inr (Or.inl (fun g => g3 (g.1 g0))))]))
              clear g4 g0 g3
              go_wp2_with fail
              go_ret
              exact ⟨HE.out _ HQ.out, BB.out⟩
end Go.Proofs.YtdoifaifhikkjaaGreatDoor
