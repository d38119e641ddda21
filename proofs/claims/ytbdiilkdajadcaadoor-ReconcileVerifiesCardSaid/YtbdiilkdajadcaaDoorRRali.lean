/-
  Stage 8: the reference's Align.
-/
import Derived.Test.YtbdiilkdajadcaaDoorRRtbl
import Derived.Test.YtbdiilkdajadcaaDoorRAli
import Derived.Test.YtbdiilkdajadcaaDoorRRcos
import Derived.Test.YtbdiilkdajadcaaDoorRPotM
import Derived.StillTailTactics
set_option linter.unusedSimpArgs false
set_option linter.unusedVariables false
namespace Go.Proofs.YtbdiilkdajadcaaDoor
open Go.RowKit

/-- The reference's two tables while they are filled: at the place (i, j) the edits below q have been looked at. -/
def dnA (k m x y : Nat) : Prop := k ≤ x ∨ (x + 1 = k ∧ m ≤ y)
instance (k m x y : Nat) : Decidable (dnA k m x y) := inferInstanceAs (Decidable (_ ∨ _))
def TA (a b : List Int) (k m : Nat) (s : Bst) : Nat → Nat → Int := fun x y => if dnA k m x y then cst a b x y else if x + 1 = k ∧ y + 1 = m then (match s with | some z => z.1 | none => -1) else -1
def FA (a b : List Int) (k m : Nat) (s : Bst) : Nat → Nat → Int := fun x y => if dnA k m x y then (if x = a.length ∧ y = b.length then -1 else (fst a b x y : Int)) else if x + 1 = k ∧ y + 1 = m then (match s with | some z => (z.2 : Int) | none => -1) else -1
theorem TA_done {a b : List Int} {k m x y : Nat} {s : Bst} (h : dnA k m x y) : TA a b k m s x y = cst a b x y := if_pos h
theorem FA_done' {a b : List Int} {k m x y : Nat} {s : Bst} (h : dnA k m x y) : FA a b k m s x y = (if x = a.length ∧ y = b.length then -1 else (fst a b x y : Int)) := if_pos h
theorem FA_done {a b : List Int} {k m x y : Nat} {s : Bst} (h : dnA k m x y) (h2 : x < a.length ∨ y < b.length) : FA a b k m s x y = (fst a b x y : Int) := by
  rw [FA_done' h]; exact if_neg (by omega)
theorem TA_cur {a b : List Int} {k m x y : Nat} {z : Int × Nat} (h : ¬ dnA k m x y) (g : x + 1 = k ∧ y + 1 = m) : TA a b k m (some z) x y = z.1 := (if_neg h).trans (if_pos g)
theorem FA_cur {a b : List Int} {k m x y : Nat} {z : Int × Nat} (h : ¬ dnA k m x y) (g : x + 1 = k ∧ y + 1 = m) : FA a b k m (some z) x y = (z.2 : Int) := (if_neg h).trans (if_pos g)
theorem TA_else {a b : List Int} {k m x y : Nat} {s : Bst} (h : ¬ dnA k m x y) (g : ¬ (x + 1 = k ∧ y + 1 = m)) : TA a b k m s x y = -1 := (if_neg h).trans (if_neg g)
theorem FA_else {a b : List Int} {k m x y : Nat} {s : Bst} (h : ¬ dnA k m x y) (g : ¬ (x + 1 = k ∧ y + 1 = m)) : FA a b k m s x y = -1 := (if_neg h).trans (if_neg g)
theorem TA_none {a b : List Int} {k m x y : Nat} (h : ¬ dnA k m x y) : TA a b k m none x y = -1 := (if_neg h).trans (by split <;> rfl)
theorem FA_none {a b : List Int} {k m x y : Nat} (h : ¬ dnA k m x y) : FA a b k m none x y = -1 := (if_neg h).trans (by split <;> rfl)
theorem not_dn {i j : Nat} : ¬ dnA (i + 1) (j + 1) i j := by unfold dnA; omega
theorem TA_here {a b : List Int} {i j : Nat} {s : Bst} : TA a b (i + 1) (j + 1) s i j = (match s with | some z => z.1 | none => -1) := (if_neg not_dn).trans (if_pos ⟨rfl, rfl⟩)
theorem TA_upd {a b : List Int} {i j x y : Nat} {s : Bst} {z : Int × Nat} : upd (TA a b (i + 1) (j + 1) s) i j z.1 x y = TA a b (i + 1) (j + 1) (some z) x y := by
  by_cases h : x = i ∧ y = j
  · obtain ⟨rfl, rfl⟩ := h; rw [upd_same, TA_here]
  · rw [upd_other _ _ h]
    by_cases g : dnA (i + 1) (j + 1) x y
    · rw [TA_done g, TA_done g]
    · rw [TA_else g (by omega), TA_else g (by omega)]
theorem FA_upd {a b : List Int} {i j x y : Nat} {s : Bst} {z : Int × Nat} : upd (FA a b (i + 1) (j + 1) s) i j (z.2 : Int) x y = FA a b (i + 1) (j + 1) (some z) x y := by
  by_cases h : x = i ∧ y = j
  · obtain ⟨rfl, rfl⟩ := h; rw [upd_same, FA_cur not_dn ⟨rfl, rfl⟩]
  · rw [upd_other _ _ h]
    by_cases g : dnA (i + 1) (j + 1) x y
    · rw [FA_done' g, FA_done' g]
    · rw [FA_else g (by omega), FA_else g (by omega)]
/-- All edits of a place have been looked at. -/
theorem TA_next {a b : List Int} {i j x y : Nat} (hi : i ≤ a.length) (hj : j ≤ b.length) (h : i < a.length ∨ j < b.length) : TA a b (i + 1) (j + 1) (pickK (cst a b) a b i j 5) x y = TA a b (i + 1) j none x y ∧ FA a b (i + 1) (j + 1) (pickK (cst a b) a b i j 5) x y = FA a b (i + 1) j none x y := by
  have e0 := restR_eq hi hj
  unfold bestK at e0
  rcases pickK_spec (T := cst a b) (a := a) (b := b) (i := i) (j := j) 5 with ⟨e, h0⟩ | ⟨c, n, e, _⟩
  · rcases h with h | h
    · have := h0 2 (by omega); rw [okP2.2 h] at this; cases this
    · have := h0 3 (by omega); rw [okP3.2 h] at this; cases this
  · rw [e] at e0 ⊢
    have e1 : fst a b i j = n := by unfold fst; rw [e0]; rfl
    have e2 : cst a b i j = c := by unfold cst; rw [e0]; rfl
    by_cases g : x = i ∧ y = j
    · have g3 : dnA (i + 1) j x y := by unfold dnA; omega
      obtain ⟨rfl, rfl⟩ := g
      rw [TA_cur not_dn ⟨rfl, rfl⟩, FA_cur not_dn ⟨rfl, rfl⟩, TA_done g3, FA_done g3 h, e1, e2]
      exact ⟨rfl, rfl⟩
    · by_cases g2 : dnA (i + 1) (j + 1) x y
      · have g3 : dnA (i + 1) j x y := by unfold dnA at g2 ⊢; omega
        rw [TA_done g2, FA_done' g2, TA_done g3, FA_done' g3]; exact ⟨rfl, rfl⟩
      · have g3 : ¬ dnA (i + 1) j x y := by unfold dnA at g2 ⊢; omega
        rw [TA_else g2 (by omega), FA_else g2 (by omega), TA_none g3, FA_none g3]; exact ⟨rfl, rfl⟩
theorem TA_last {a b : List Int} {x y : Nat} : upd (TA a b (a.length + 1) (b.length + 1) none) a.length b.length 0 x y = TA a b (a.length + 1) b.length none x y ∧ FA a b (a.length + 1) (b.length + 1) none x y = FA a b (a.length + 1) b.length none x y := by
  by_cases g : x = a.length ∧ y = b.length
  · have g3 : dnA (a.length + 1) b.length x y := by unfold dnA; omega
    obtain ⟨rfl, rfl⟩ := g
    refine ⟨by rw [upd_same, TA_done g3, cst_end], ?_⟩
    rw [FA_none not_dn, FA_done' g3]; exact (if_pos ⟨rfl, rfl⟩).symm
  · rw [upd_other _ _ g]
    by_cases g2 : dnA (a.length + 1) (b.length + 1) x y
    · have g3 : dnA (a.length + 1) b.length x y := by unfold dnA at g2 ⊢; omega
      rw [TA_done g2, FA_done' g2, TA_done g3, FA_done' g3]; exact ⟨rfl, rfl⟩
    · have g3 : ¬ dnA (a.length + 1) b.length x y := by unfold dnA at g2 ⊢; omega
      rw [TA_none g2, FA_none g2, TA_none g3, FA_none g3]; exact ⟨rfl, rfl⟩
theorem TA_row {a b : List Int} {i x y : Nat} (hy : y < b.length + 1) : TA a b (i + 1) 0 none x y = TA a b i (b.length + 1) none x y ∧ FA a b (i + 1) 0 none x y = FA a b i (b.length + 1) none x y := by
  by_cases g2 : dnA (i + 1) 0 x y
  · have g3 : dnA i (b.length + 1) x y := by unfold dnA at g2 ⊢; omega
    rw [TA_done g2, FA_done' g2, TA_done g3, FA_done' g3]; exact ⟨rfl, rfl⟩
  · have g3 : ¬ dnA i (b.length + 1) x y := by unfold dnA at g2 ⊢; omega
    rw [TA_none g2, FA_none g2, TA_none g3, FA_none g3]; exact ⟨rfl, rfl⟩
theorem TA_start {a b : List Int} {x y : Nat} (hx : x < a.length + 1) (hy : y < b.length + 1) : (-1 : Int) = TA a b (a.length + 1) (b.length + 1) none x y ∧ (-1 : Int) = FA a b (a.length + 1) (b.length + 1) none x y := by
  have g : ¬ dnA (a.length + 1) (b.length + 1) x y := by unfold dnA; omega
  rw [TA_none g, FA_none g]; exact ⟨rfl, rfl⟩
theorem pick_nn {a b : List Int} {i j k : Nat} (hi : i ≤ a.length) (hj : j ≤ b.length) {z : Int × Nat} (h : pickK (cst a b) a b i j k = some z) : 0 ≤ z.1 ∧ z.1 ≤ 4 + 4 * (a.length : Int) + 4 * (b.length : Int) := by
  rcases pickK_spec (T := cst a b) (a := a) (b := b) (i := i) (j := j) k with ⟨e, h0⟩ | ⟨c, n, e, _, ho, hc, _⟩
  · rw [e] at h; cases h
  · rw [e] at h
    injection h with h
    subst h
    have := okP_in hi hj ho
    have := cst_bd (a := a) (b := b) (i + dA n) (j + dB n) (by omega) (by omega)
    simp only
    omega
theorem Tab.setOther {α : Type} {R : Rec α} {e : TypeId} {w : World} {base g L M k : Nat} {rb rc : Nat → Nat} {T : Nat → Nat → α} (h : Tab R e w base g L M k rb rc T) {b : Nat} (hg : b ≠ g) (hr : ∀ i, i < k → rb i ≠ b) (o : Nat) (v : Value) : Tab R e (w.setCell ⟨b, o, none⟩ v) base g L M k rb rc T :=
  ⟨by rw [World.size_setCell]; exact h.glt, h.gb, fun j => by rw [World.frozen?_setCell]; exact h.fz j, fun i hi => by rw [World.cell?_setCell_other _ _ _ _ (fun e => hg (congrArg Addr.block e))]; exact h.out i hi, fun i h1 h2 => by rw [World.cell?_setCell_other _ _ _ _ (fun e => hg (congrArg Addr.block e))]; exact h.nil i h1 h2,
    fun i hi => (h.row i hi).kept (row := some b) ⟨rfl, rfl, rfl, by rw [World.size_setCell]; exact Nat.le_refl _, fun q hq hn => Below.heap_setCell _ _ _ _ (fun e => hn (by rw [e]))⟩ (Or.inr (fun e => hr i hi (Option.some.inj e))), h.ne, h.inj⟩
/-- The two tables. -/
structure ASt (a b : List Int) (w : World) (Z g1 g2 : Nat) (rb1 rc1 rb2 rc2 : Nat → Nat) (k m : Nat) (s : Bst) (wr : World) : Prop where
  bel : Below w.heap.size w wr
  t1 : Tab IR 3 wr w.heap.size g1 (a.length + 1) (b.length + 1) (a.length + 1) rb1 rc1 (TA a b k m s)
  t2 : Tab IR 3 wr Z g2 (a.length + 1) (b.length + 1) (a.length + 1) rb2 rc2 (FA a b k m s)
  lo : g1 < Z ∧ (∀ i, i < a.length + 1 → rb1 i < Z) ∧ w.heap.size ≤ Z
theorem ASt.below {a b : List Int} {w : World} {Z g1 g2 : Nat} {rb1 rc1 rb2 rc2 : Nat → Nat} {k m : Nat} {s : Bst} {wr wr' : World} (h : ASt a b w Z g1 g2 rb1 rc1 rb2 rc2 k m s wr) (q : Below wr.heap.size wr wr') : ASt a b w Z g1 g2 rb1 rc1 rb2 rc2 k m s wr' :=
  ⟨h.bel.trans (q.mono h.bel.size), h.t1.below q, h.t2.below q, h.lo⟩
theorem ASt.congr {a b : List Int} {w : World} {Z g1 g2 : Nat} {rb1 rc1 rb2 rc2 : Nat → Nat} {k m k' m' : Nat} {s s' : Bst} {wr : World} (h : ASt a b w Z g1 g2 rb1 rc1 rb2 rc2 k m s wr) (hh : ∀ x y, x < a.length + 1 → y < b.length + 1 → TA a b k m s x y = TA a b k' m' s' x y ∧ FA a b k m s x y = FA a b k' m' s' x y) : ASt a b w Z g1 g2 rb1 rc1 rb2 rc2 k' m' s' wr :=
  ⟨h.bel, h.t1.congr (fun x y hx hy => (hh x y hx hy).1), h.t2.congr (fun x y hx hy => (hh x y hx hy).2), h.lo⟩
/-- Both tables get the new best edit. -/
theorem ASt.put {a b : List Int} {w : World} {Z g1 g2 : Nat} {rb1 rc1 rb2 rc2 : Nat → Nat} {i j : Nat} {s : Bst} {wr : World} (h : ASt a b w Z g1 g2 rb1 rc1 rb2 rc2 (i + 1) (j + 1) s wr) (hi : i < a.length + 1) (z : Int × Nat) :
    ASt a b w Z g1 g2 rb1 rc1 rb2 rc2 (i + 1) (j + 1) (some z) ((wr.setCell ⟨rb1 i, j, none⟩ (.int .i64 z.1)).setCell ⟨rb2 i, j, none⟩ (.int .i64 (z.2 : Int))) := by
  have l1 := h.lo.2.1 i hi
  have l2 := (h.t2.rlt (i := i) hi).1
  have l3 := (h.t1.rlt (i := i) hi).1
  have z2 : ∀ x, x < a.length + 1 → rb2 x ≠ rb1 i := fun x hx e => by have := (h.t2.rlt (i := x) hx).1; omega
  have z1 : ∀ x, x < a.length + 1 → rb1 x ≠ rb2 i := fun x hx e => by have := h.lo.2.1 x hx; omega
  have g2z := h.t2.gb
  have g1z := h.lo.1
  refine ⟨(h.bel.setCell (p := ⟨rb1 i, j, none⟩) l3 _).setCell (p := ⟨rb2 i, j, none⟩) (Nat.le_trans h.lo.2.2 l2) _, ?_, ?_, h.lo⟩
  · exact ((h.t1.setI hi j z.1).congr (U := TA a b (i + 1) (j + 1) (some z)) (fun x y _ _ => TA_upd)).setOther (by omega) z1 j _
  · exact ((h.t2.setOther (by omega) z2 j (.int .i64 z.1)).setI hi j (z.2 : Int)).congr (fun x y _ _ => FA_upd)
theorem ASt.last {a b : List Int} {w : World} {Z g1 g2 : Nat} {rb1 rc1 rb2 rc2 : Nat → Nat} {wr : World} (h : ASt a b w Z g1 g2 rb1 rc1 rb2 rc2 (a.length + 1) (b.length + 1) none wr) :
    ASt a b w Z g1 g2 rb1 rc1 rb2 rc2 (a.length + 1) b.length none (wr.setCell ⟨rb1 a.length, b.length, none⟩ (.int .i64 0)) := by
  have hi : a.length < a.length + 1 := Nat.lt_succ_self _
  have l1 := h.lo.2.1 a.length hi
  have l3 := (h.t1.rlt (i := a.length) hi).1
  have g2z := h.t2.gb
  refine ⟨h.bel.setCell (p := ⟨rb1 a.length, b.length, none⟩) l3 _, (h.t1.setI hi b.length 0).congr (fun x y _ _ => TA_last.1), (h.t2.setOther (by omega) (fun x hx e => by have := (h.t2.rlt (i := x) hx).1; omega) _ _).congr (fun x y _ _ => TA_last.2), h.lo⟩
set_option maxRecDepth 100000 in
set_option maxHeartbeats 6400000 in
theorem rali_any (a b : List Int) (A B : Option Addr) (ca cb : Nat) (w : World) (la : a.length ≤ 1000000000) (lb : b.length ≤ 1000000000) (ha : Row .i64 w w.heap.size A a) (hb : Row .i64 w w.heap.size B b) :
    Calls Tryd.prog 15 #[.slice A a.length ca, .slice B b.length cb] w (AliPost (aliR a b).1 (aliR a b).2.1 (aliR a b).2.2 w) := by
  have HL := Lib.hid (rlong_any A B a.length ca b.length cb w la lb)
  by_cases hl : lngP a b
  · have HR := Lib.hid (show aliR a b = ([], 0, 3) from if_pos hl)
    rw [decide_eq_true (show 96 < a.length ∨ 96 < b.length from hl)] at HL
    go_enter Tryd.func15, Tryd.ntmps15
    go_wp2_with (first | (go_at_call 31; refine HL.out.mono ?_; rintro e w' ⟨rfl, rfl⟩))
    refine bodyPost_ret (results_tmp3 rfl _ _ _ _ _ rfl rfl rfl) rfl ?_
    rw [HR.out]
    exact ⟨⟨_, rfl, Own.nil⟩, Below.refl _ _⟩
  have HR := Lib.hid (show aliR a b = (scr a b, cst a b 0 0, 0) from if_neg hl)
  rw [decide_eq_false (show ¬ (96 < a.length ∨ 96 < b.length) from hl)] at HL
  have l1 : a.length ≤ 96 := by unfold lngP at hl; omega
  have l2 : b.length ≤ 96 := by unfold lngP at hl; omega
  have HN := Lib.hid (fun W => rtbl_any A B a.length ca b.length cb W l1 l2)
  have HA := Lib.hid ha
  have HB := Lib.hid hb
  clear ha hb hl la lb
  go_enter Tryd.func15, Tryd.ntmps15
  go_wp2_with (first | (go_at_call 31; refine HL.out.mono ?_; rintro e w' ⟨rfl, rfl⟩))
  refine (HN.out w).mono ?_
  rintro e w1 ⟨⟨g1, c1, rb1, rc1, rfl, hc1, T1⟩, B1⟩
  have HT1 := Lib.hid T1
  have HB1 := Lib.hid B1
  clear T1 B1 HL
  go_wp2_with fail
  refine (HN.out w1).mono ?_
  rintro e w2 ⟨⟨g2, c2, rb2, rc2, rfl, hc2, T2⟩, B2⟩
  have HS0 := Lib.hid (show ASt a b w w1.heap.size g1 g2 rb1 rc1 rb2 rc2 (a.length + 1) (b.length + 1) none w2 from
    ⟨HB1.out.trans (B2.mono HB1.out.size), (HT1.out.below B2).congr (fun x y hx hy => (TA_start hx hy).1), T2.congr (fun x y hx hy => (TA_start hx hy).2), HT1.out.glt, fun i hi => (HT1.out.rlt hi).2, HB1.out.size⟩)
  clear T2 B2 HT1 HB1 HN hc1 hc2
  obtain ⟨Z, hZ⟩ : ∃ Z, Z = w1.heap.size := ⟨_, rfl⟩
  rw [← hZ] at HS0
  clear hZ
  go_wp2_with fail
  go_loopw [9] (fun v wr => ∃ k : Nat, k ≤ a.length + 1 ∧ v = .int .i64 ((k : Int) - 1) ∧ Hid (ASt a b w Z g1 g2 rb1 rc1 rb2 rc2 k (b.length + 1) none wr)) (fun v _ => (intOf v + 1).toNat)
  case atStart => exact ⟨a.length + 1, Nat.le_refl _, by congr 1; omega, HS0⟩
  case round =>
    clear HS0
    obtain ⟨k, hk, rfl, HS⟩ := hrel
    cases k with
    | succ i =>
      rw [show (((i + 1 : Nat) : Int) - 1) = (i : Int) by omega]
      have i0 : (0 : Int) ≤ (i : Int) := by omega
      have i1 : (i : Int) < (a.length : Int) + 1 := by omega
      have hi : i < a.length + 1 := by omega
      go_wp2_with fail
      generalize wr = wo at *
      go_loopw [10] (fun v wr => ∃ m : Nat, m ≤ b.length + 1 ∧ v = .int .i64 ((m : Int) - 1) ∧ Hid (ASt a b w Z g1 g2 rb1 rc1 rb2 rc2 (i + 1) m none wr)) (fun v _ => (intOf v + 1).toNat)
      case atStart => exact ⟨b.length + 1, Nat.le_refl _, by congr 1; omega, HS⟩
      case round =>
        clear HS
        obtain ⟨m, hm, rfl, HS⟩ := hrel
        cases m with
        | succ j =>
          rw [show (((j + 1 : Nat) : Int) - 1) = (j : Int) by omega]
          have j0 : (0 : Int) ≤ (j : Int) := by omega
          have j1 : (j : Int) < (b.length : Int) + 1 := by omega
          have hj : j < b.length + 1 := by omega
          by_cases hend : i = a.length ∧ j = b.length
          · obtain ⟨rfl, rfl⟩ := hend
            have t1 := HS.out.t1.out a.length hi
            have t2 := HS.out.t1.cellI hi hj
            have f2 := HS.out.t1.frozen hi b.length
            have HS2 := Lib.hid HS.out.last
            clear HS
            go_wp2_with fail
            go_roundw
            case rel => exact ⟨b.length, by omega, by go_num, HS2⟩
            case measure => simp [intOf] <;> omega
          · have hne : ((i : Int) == (a.length : Int) && (j : Int) == (b.length : Int)) = false := by
              rw [Bool.and_eq_false_iff]
              by_cases q : i = a.length
              · right; exact beq_eq_false_iff_ne.2 (by omega)
              · left; exact beq_eq_false_iff_ne.2 (by omega)
            have hrem : i < a.length ∨ j < b.length := by omega
            have HS0 := Lib.hid (show ASt a b w Z g1 g2 rb1 rc1 rb2 rc2 (i + 1) (j + 1) (pickK (cst a b) a b i j 0) wr from HS.out)
            have hcase : ((i : Int) == (a.length : Int)) = false ∨ (((i : Int) == (a.length : Int)) = true ∧ ((j : Int) == (b.length : Int)) = false) := by
              by_cases q : i = a.length
              · right; exact ⟨beq_iff_eq.2 (by omega), beq_eq_false_iff_ne.2 (by omega)⟩
              · left; exact beq_eq_false_iff_ne.2 (by omega)
            clear HS hne
            have hi' : i ≤ a.length := by omega
            have hj' : j ≤ b.length := by omega
            have HHE := Lib.hid hrem
            rcases hcase with q1 | ⟨q1, q2⟩
            all_goals
              clear hend hrem
              go_wp2_with fail
              generalize wr = wp at *
              go_loopw [11] (fun v wr => ∃ q : Nat, q ≤ 5 ∧ v = .int .i64 (q : Int) ∧ Hid (ASt a b w Z g1 g2 rb1 rc1 rb2 rc2 (i + 1) (j + 1) (pickK (cst a b) a b i j q) wr)) (fun v _ => 5 - (intOf v).toNat)
              case atStart => exact ⟨0, by omega, rfl, HS0⟩
              case round =>
                clear HS0
                obtain ⟨q, hq, rfl, HS⟩ := hrel
                by_cases hltk : q < 5
                · have k1 : (q : Int) ≤ 4 := by omega
                  have bWN : ∀ nd, Below wr.heap.size wr (wr.drewN nd) := fun nd => ⟨rfl, rfl, rfl, Nat.le_refl _, fun _ _ => rfl⟩
                  have EDT := edt_any q hltk a b A B ca cb i j wr ((HA.out.under HS.out.bel).more HS.out.bel.size) ((HB.out.under HS.out.bel).more HS.out.bel.size) (by omega) (by omega) (by omega) (by omega)
                  by_cases hop : okP a b i j q = true
                  · rw [hop] at EDT
                    have hin := okP_in hi' hj' hop
                    have HPK := Lib.hid (show pickK (cst a b) a b i j (q + 1) = put1 (dC q + cst a b (i + dA q) (j + dB q)) q (pickK (cst a b) a b i j q) from if_pos hop)
                    have HNN := Lib.hid (fun z (hz : pickK (cst a b) a b i j q = some z) => pick_nn hi' hj' hz)
                    have HSN := Lib.hid (fun nd => HS.out.below (bWN nd))
                    have cb0 := cst_bd (a := a) (b := b) (i + dA q) (j + dB q) hin.2.1 hin.2.2.1
                    have hdn : dnA (i + 1) (j + 1) (i + dA q) (j + dB q) := by
                      have := okP_fwd hop
                      unfold dnA; omega
                    obtain ⟨h5, hiA, hjB, hd1, hc0, hc4, -⟩ := hin
                    obtain ⟨I, eI⟩ : ∃ I, I = i + dA q := ⟨_, rfl⟩
                    obtain ⟨J, eJ⟩ : ∃ J, J = j + dB q := ⟨_, rfl⟩
                    rw [← eI, ← eJ] at EDT HPK cb0 hdn
                    rw [← eI] at hiA
                    rw [← eJ] at hjB
                    have I0 : (0 : Int) ≤ (I : Int) := by omega
                    have J0 : (0 : Int) ≤ (J : Int) := by omega
                    have I1 : (I : Int) < (a.length : Int) + 1 := by omega
                    have J1 : (J : Int) < (b.length : Int) + 1 := by omega
                    have hIA : I < a.length + 1 := by omega
                    have hJB : J < b.length + 1 := by omega
                    have HDN := Lib.hid hdn
                    obtain ⟨s, hs⟩ : ∃ s, s = pickK (cst a b) a b i j q := ⟨_, rfl⟩
                    rw [← hs] at HPK HNN HSN
                    have w3 : IntKind.i64.wrap (dC q + cst a b I J) = dC q + cst a b I J := IntWalk.i64_in _ (by omega)
                    clear eI eJ hop hd1 hdn HS
                    go_wp2_with (first | (go_at_call 33; refine EDT.mono ?_; rintro e w' ⟨rfl, nd, rfl⟩; have HS4 := Lib.hid (HSN.out nd); generalize wr.drewN nd = w4 at *))
                    have o1 := HS4.out.t1.out i hi
                    have o2 := HS4.out.t1.cellI hi hj
                    rw [TA_here] at o2
                    have o3 := HS4.out.t1.out I hIA
                    have o4 := HS4.out.t1.cellI hIA hJB
                    rw [TA_done HDN.out] at o4
                    have o5 := HS4.out.t2.out i hi
                    have o6 := HS4.out.t2.cellI hi hj
                    have HF := Lib.hid (And.intro (HS4.out.t1.frozen hi j) (HS4.out.t2.frozen hi j))
                    have HNR := Lib.hid (show rb1 i ≠ rb2 i from fun e => by have := HS4.out.lo.2.1 i hi; have := (HS4.out.t2.rlt hi).1; omega)
                    clear HSN
                    cases s with
                    | none =>
                      simp only at o2
                      have HP := Lib.hid (show pickK (cst a b) a b i j (q + 1) = some (dC q + cst a b I J, q) from HPK.out)
                      go_quiet (fail)
                      have HS5 := Lib.hid (show ∀ W, Below w4.heap.size w4 W → ASt a b w Z g1 g2 rb1 rc1 rb2 rc2 (i + 1) (j + 1) (pickK (cst a b) a b i j (q + 1)) ((W.setCell ⟨rb1 i, j, none⟩ (.int .i64 (dC q + cst a b I J))).setCell ⟨rb2 i, j, none⟩ (.int .i64 (q : Int))) from fun W hW => by
                        rw [HP.out]; exact (HS4.out.below hW).put hi (dC q + cst a b I J, q))
                      have HF : Hid ((w4.drewN nq).frozen? ⟨rb1 i, j, none⟩ = false ∧ (w4.drewN nq).frozen? ⟨rb2 i, j, none⟩ = false) := HF
                      have o1 : (w4.drewN nq).cell? _ = _ := o1
                      have o2 : (w4.drewN nq).cell? _ = _ := o2
                      have o3 : (w4.drewN nq).cell? _ = _ := o3
                      have o4 : (w4.drewN nq).cell? _ = _ := o4
                      have o5 : (w4.drewN nq).cell? _ = _ := o5
                      have o6 : (w4.drewN nq).cell? _ = _ := o6
                      have HS5 := Lib.hid ((HS5.out (w4.drewN nq) ⟨rfl, rfl, rfl, Nat.le_refl _, fun _ _ => rfl⟩).below (wr' := (((w4.drewN nq).setCell ⟨rb1 i, j, none⟩ (.int .i64 (dC q + cst a b I J))).setCell ⟨rb2 i, j, none⟩ (.int .i64 (q : Int))).drew) ⟨rfl, rfl, rfl, Nat.le_refl _, fun _ _ => rfl⟩)
                      generalize w4.drewN nq = w5 at *
                      go_wp2_with fail
                      have f1 := HF.out.1
                      have f2 := HF.out.2
                      have hnr := HNR.out
                      have o7 : (w5.drew.setCell ⟨rb1 i, j, none⟩ (.int .i64 (dC q + cst a b I J))).cell? ⟨rb2 i, j, none⟩ = some (.int .i64 _) := (World.cell?_setCell_other _ _ _ _ (fun e => HNR.out (congrArg Addr.block e))).trans o6
                      have f7 : (w5.drew.setCell ⟨rb1 i, j, none⟩ (.int .i64 (dC q + cst a b I J))).frozen? ⟨rb2 i, j, none⟩ = false := (World.frozen?_setCell ..).trans f2
                      clear HS4
                      go_region
                      clear o1 o2 o3 o4 o5 o6 o7 f1 f2 f7
                      generalize (((w5.setCell ⟨rb1 i, j, none⟩ (.int .i64 (dC q + cst a b I J))).setCell ⟨rb2 i, j, none⟩ (.int .i64 (q : Int))).drew) = w6 at *
                      go_wp2_with fail
                      go_roundw
                      case rel => exact ⟨q + 1, by omega, by go_num, HS5⟩
                      case measure => simp [intOf] <;> omega
                    | some z =>
                      obtain ⟨zc, zf⟩ := z
                      simp only at o2
                      have hz := (HNN.out _ rfl).1
                      simp only at hz
                      have d1 : decide (zc < 0) = false := decide_eq_false (by omega)
                      by_cases hlc : dC q + cst a b I J < zc
                      · have HP := Lib.hid (show pickK (cst a b) a b i j (q + 1) = some (dC q + cst a b I J, q) from HPK.out.trans (if_pos hlc))
                        go_quiet (fail)
                        have HS5 := Lib.hid (show ∀ W, Below w4.heap.size w4 W → ASt a b w Z g1 g2 rb1 rc1 rb2 rc2 (i + 1) (j + 1) (pickK (cst a b) a b i j (q + 1)) ((W.setCell ⟨rb1 i, j, none⟩ (.int .i64 (dC q + cst a b I J))).setCell ⟨rb2 i, j, none⟩ (.int .i64 (q : Int))) from fun W hW => by
                          rw [HP.out]; exact (HS4.out.below hW).put hi (dC q + cst a b I J, q))
                        have HF : Hid ((w4.drewN nq).frozen? ⟨rb1 i, j, none⟩ = false ∧ (w4.drewN nq).frozen? ⟨rb2 i, j, none⟩ = false) := HF
                        have o1 : (w4.drewN nq).cell? _ = _ := o1
                        have o2 : (w4.drewN nq).cell? _ = _ := o2
                        have o3 : (w4.drewN nq).cell? _ = _ := o3
                        have o4 : (w4.drewN nq).cell? _ = _ := o4
                        have o5 : (w4.drewN nq).cell? _ = _ := o5
                        have o6 : (w4.drewN nq).cell? _ = _ := o6
                        have HS5 := Lib.hid ((HS5.out (w4.drewN nq) ⟨rfl, rfl, rfl, Nat.le_refl _, fun _ _ => rfl⟩).below (wr' := (((w4.drewN nq).setCell ⟨rb1 i, j, none⟩ (.int .i64 (dC q + cst a b I J))).setCell ⟨rb2 i, j, none⟩ (.int .i64 (q : Int))).drew) ⟨rfl, rfl, rfl, Nat.le_refl _, fun _ _ => rfl⟩)
                        generalize w4.drewN nq = w5 at *
                        go_wp2_with fail
                        have f1 := HF.out.1
                        have f2 := HF.out.2
                        have hnr := HNR.out
                        have o7 : (w5.drew.setCell ⟨rb1 i, j, none⟩ (.int .i64 (dC q + cst a b I J))).cell? ⟨rb2 i, j, none⟩ = some (.int .i64 _) := (World.cell?_setCell_other _ _ _ _ (fun e => HNR.out (congrArg Addr.block e))).trans o6
                        have f7 : (w5.drew.setCell ⟨rb1 i, j, none⟩ (.int .i64 (dC q + cst a b I J))).frozen? ⟨rb2 i, j, none⟩ = false := (World.frozen?_setCell ..).trans f2
                        clear HS4
                        go_region
                        clear o1 o2 o3 o4 o5 o6 o7 f1 f2 f7
                        generalize (((w5.setCell ⟨rb1 i, j, none⟩ (.int .i64 (dC q + cst a b I J))).setCell ⟨rb2 i, j, none⟩ (.int .i64 (q : Int))).drew) = w6 at *
                        go_wp2_with fail
                        go_roundw
                        case rel => exact ⟨q + 1, by omega, by go_num, HS5⟩
                        case measure => simp [intOf] <;> omega
                      · have HP := Lib.hid (show pickK (cst a b) a b i j (q + 1) = some (zc, zf) from HPK.out.trans (if_neg hlc))
                        go_quiet (fail)
                        have HS5 := Lib.hid (show ASt a b w Z g1 g2 rb1 rc1 rb2 rc2 (i + 1) (j + 1) (pickK (cst a b) a b i j (q + 1)) (w4.drewN nq) from by
                          rw [HP.out]; exact HS4.out.below ⟨rfl, rfl, rfl, Nat.le_refl _, fun _ _ => rfl⟩)
                        clear o1 o2 o3 o4 o5 o6 HS4
                        generalize w4.drewN nq = w5 at *
                        go_wp2_with fail
                        go_roundw
                        case rel => exact ⟨q + 1, by omega, by go_num, HS5⟩
                        case measure => simp [intOf] <;> omega
                  · have hf : okP a b i j q = false := by cases h : okP a b i j q <;> simp_all
                    rw [hf] at EDT
                    have HPK := Lib.hid (show pickK (cst a b) a b i j (q + 1) = pickK (cst a b) a b i j q from if_neg hop)
                    have HSN := Lib.hid (fun nd => HS.out.below (bWN nd))
                    clear HS
                    go_wp2_with (first | (go_at_call 33; refine EDT.mono ?_; rintro e w' ⟨rfl, nd, rfl⟩; have HS4 := Lib.hid (HSN.out nd); generalize wr.drewN nd = w4 at *))
                    go_quiet (fail)
                    have HS5 := Lib.hid (show ASt a b w Z g1 g2 rb1 rc1 rb2 rc2 (i + 1) (j + 1) (pickK (cst a b) a b i j (q + 1)) (w4.drewN nq) from by
                      rw [HPK.out]; exact HS4.out.below ⟨rfl, rfl, rfl, Nat.le_refl _, fun _ _ => rfl⟩)
                    generalize w4.drewN nq = w5 at *
                    go_wp2_with fail
                    go_roundw
                    case rel => exact ⟨q + 1, by omega, by go_num, HS5⟩
                    case measure => simp [intOf] <;> omega
                · obtain rfl : q = 5 := by omega
                  have HS2 := Lib.hid (HS.out.congr (k' := i + 1) (m' := j) (s' := none) (fun x y _ _ => TA_next hi' hj' HHE.out))
                  clear HS
                  go_wp2_with fail
                  go_roundw
                  case rel => exact ⟨j, by omega, by go_num, HS2⟩
                  case measure => simp [intOf] <;> omega
        | zero =>
          have HS2 := Lib.hid (HS.out.congr (k' := i) (m' := b.length + 1) (s' := none) (fun x y _ hy => TA_row hy))
          clear HS
          rw [show (((0 : Nat) : Int) - 1) = -1 by omega]
          go_wp2_with fail
          go_roundw
          case rel => exact ⟨i, by omega, by go_num, HS2⟩
          case measure => simp [intOf] <;> omega
    | zero =>
      rw [show (((0 : Nat) : Int) - 1) = -1 by omega]
      go_wp2_with fail
      have HW0 := Lib.hid HS.out.bel
      have HT2 := Lib.hid HS.out.t2
      have HT1 := Lib.hid HS.out.t1
      have HS2 := Lib.hid HS.out.bel.size
      clear HS
      generalize wr = w9 at *
      go_loopw [16, 17, 18] (fun v x y wr => ∃ (i j m : Nat) (es : List Nat), i ≤ a.length ∧ j ≤ b.length ∧ (a.length - i) + (b.length - j) ≤ m ∧ x = .int .i64 (i : Int) ∧ y = .int .i64 (j : Int) ∧ Hid (es ++ pathF a b m i j = pathF a b (a.length + b.length) 0 0) ∧ Hid (Own .i64 3 wr w9.heap.size v (es.map Int.ofNat)) ∧ Hid (Below w9.heap.size w9 wr)) (fun _ x y _ => (a.length - (intOf x).toNat) + (b.length - (intOf y).toNat))
      case atStart => exact ⟨0, 0, a.length + b.length, [], by omega, by omega, by omega, rfl, rfl, Lib.hid rfl, Lib.hid Own.nil, Lib.hid (Below.refl _ _)⟩
      case round =>
        obtain ⟨i, j, m, es, hi, hj, hm, rfl, rfl, HE, HO, HB2⟩ := hrel
        generalize wr = w3 at *
        by_cases hg : i < a.length ∨ j < b.length
        · obtain ⟨m', hm', hpa⟩ := pathF_step (m := m) hg hm
          obtain ⟨hok, hcs, -⟩ := rest_at hi hj hg
          have hin := okP_in hi hj hok
          have t1 := (HT2.out.below HB2.out).out i (by omega)
          have t2 := (HT2.out.below HB2.out).cellI (i := i) (j := j) (by omega) (by omega)
          rw [FA_done (by unfold dnA; omega) hg] at t2
          have EDT := fun W (hW : Below w9.heap.size w9 W) => edt_any (fst a b i j) hin.1 a b A B ca cb i j W ((HA.out.under (HW0.out.trans (hW.mono HS2.out))).more (HW0.out.trans (hW.mono HS2.out)).size) ((HB.out.under (HW0.out.trans (hW.mono HS2.out))).more (HW0.out.trans (hW.mono HS2.out)).size) (by omega) (by omega) (by omega) (by omega)
          have hes : es.length + 1 ≤ a.length + b.length := by
            have := congrArg List.length HE.out
            rw [hpa, List.length_append, List.length_cons] at this
            have := pathF_len (a := a) (b := b) (a.length + b.length) 0 0
            omega
          have HE2 := Lib.hid (show (es ++ [fst a b i j]) ++ pathF a b m' (i + dA (fst a b i j)) (j + dB (fst a b i j)) = pathF a b (a.length + b.length) 0 0 from by
            rw [← HE.out, hpa, List.append_assoc]; rfl)
          have EDT := Lib.hid EDT
          obtain ⟨n, hn⟩ : ∃ n, n = fst a b i j := ⟨_, rfl⟩
          rw [← hn] at EDT t2 hin HE2
          obtain ⟨h5, hia, hjb, hd1, -⟩ := hin
          have i0 : (0 : Int) ≤ (i : Int) := by omega
          have j0 : (0 : Int) ≤ (j : Int) := by omega
          have i1 : (i : Int) < (a.length : Int) + 1 := by omega
          have j1 : (j : Int) < (b.length : Int) + 1 := by omega
          have HLEN := Lib.hid (show (es.map Int.ofNat).length + 1 ≤ 1000000000 by rw [List.length_map]; omega)
          have HSB := Lib.hid HB2.out.size
          clear hpa hn hcs hok
          have hcase : ((i : Int) < (a.length : Int)) ∨ (¬ (i : Int) < (a.length : Int) ∧ (j : Int) < (b.length : Int)) := by omega
          rcases hcase with g1 | ⟨g1, g2⟩
          all_goals
            go_wp2_with (first
              | (at_builtin; refine wpList_appI _ rfl (.tmp 141) (.tmp 143) rfl w9.heap.size _ (es.map Int.ofNat) rfl (HO.out.alloc _) (n : Int) w3 rfl _ rfl 1 rfl HLEN.out (le_allocW HSB.out) ?_; intro v5 w5 A5; have HB5 := Lib.hid (AppI.below A5 HB2.out HSB.out HO.out); have O5 := Lib.hid A5.1; have ED5 := EDT.out _ HB5.out; clear A5)
              | (go_at_call 33; refine ED5.mono ?_; rintro e w' ⟨rfl, nd, rfl⟩; have O6 := Lib.hid (O5.out.drewN nd); have HB6 := Lib.hid (bdn (n := nd) HB5.out); generalize w5.drewN nd = w6 at *))
            go_roundw
            case rel => exact ⟨i + dA n, j + dB n, m', es ++ [n], hia, hjb, by omega, by congr 1, by congr 1, HE2, Lib.hid (by rw [List.map_append]; exact O6.out), HB6⟩
            case measure => simp [intOf] <;> omega
        · have g1 : ¬ (i : Int) < (a.length : Int) := by omega
          have g2 : ¬ (j : Int) < (b.length : Int) := by omega
          obtain rfl : i = a.length := by omega
          obtain rfl : j = b.length := by omega
          have HE2 := Lib.hid (show es.map Int.ofNat = scr a b from by
            have := HE.out
            rw [pathF_end (by omega) (by omega), List.append_nil] at this
            rw [this]; rfl)
          have t1 := (HT1.out.below HB2.out).out 0 (by omega)
          have t2 := (HT1.out.below HB2.out).cellI (i := 0) (j := 0) (by omega) (by omega)
          rw [TA_done (by unfold dnA; omega)] at t2
          clear HE
          rw [HE2.out] at HO
          have i1 : (0 : Int) < (a.length : Int) + 1 := by omega
          have j1 : (0 : Int) < (b.length : Int) + 1 := by omega
          go_wp2_with fail
          go_quiet (fail)
          go_wp2_with fail
          refine bodyPost_ret (results_tmp3 rfl _ _ _ _ _ rfl rfl rfl) rfl ?_
          rw [HR.out]
          exact ⟨⟨_, rfl, (HO.out.drewN _).base HS2.out⟩, bdn (HW0.out.trans (HB2.out.mono HS2.out))⟩
end Go.Proofs.YtbdiilkdajadcaaDoor
