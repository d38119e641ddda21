/-
  Stage 7: lists of lists; divisions in memory; the rest of a list.
-/
import Derived.Test.YtgiodpepjajlmaaWTab
import Derived.Test.YtgiodpepjajlmaaWApp
import Derived.Test.YtgiodpepjajlmaaCWagR
set_option linter.unusedSimpArgs false
set_option linter.unusedVariables false
namespace Go.Proofs.Ytgiodpepjajlmaa
open Go.RowKit

/-- The slice from A on reads as lists. -/
def PP (w : World) (A : Option Addr) (ps : List (List Int)) : Prop :=
  ∀ k p, ps[k]? = some p → ∃ ad : Addr, A = some ad ∧ ad.block < w.heap.size ∧ ∃ a c, w.cell? (ad.add k) = some (.slice a p.length c) ∧ Row .i64 w w.heap.size a p ∧ p.length ≤ maxLen
theorem PP.below {w w' : World} {A : Option Addr} {ps : List (List Int)} (h : PP w A ps) (b : Below w.heap.size w w') : PP w' A ps := fun k p hk => by
  obtain ⟨ad, e, hb, a, c, hc, hr, hm⟩ := h k p hk
  exact ⟨ad, e, Nat.lt_of_lt_of_le hb b.size, a, c, (b.cell (by rw [add_block]; exact hb)).trans hc, hr.below b, hm⟩
theorem PP.drewN {w : World} {A : Option Addr} {ps : List (List Int)} (h : PP w A ps) (n : Nat) : PP (w.drewN n) A ps := h.below ⟨rfl, rfl, rfl, Nat.le_refl _, fun _ _ => rfl⟩
theorem PP.nil {w : World} {A : Option Addr} : PP w A [] := fun k p hk => by simp at hk
theorem PP.take {w : World} {A : Option Addr} {ps : List (List Int)} (h : PP w A ps) (n : Nat) : PP w A (ps.take n) := fun k p hk => by
  rw [List.getElem?_take] at hk
  split at hk
  · exact h k p hk
  · cases hk
theorem getD_ex {α : Type} {l : List α} {k : Nat} (z : α) (h : k < l.length) : l[k]? = some (l.getD k z) := by
  rw [List.getD_eq_getElem?_getD, List.getElem?_eq_getElem h]; rfl
theorem PP.at_ {w : World} {A : Option Addr} {ps : List (List Int)} (h : PP w A ps) {k : Nat} (hk : k < ps.length) :
    ∃ ad : Addr, A = some ad ∧ ∃ a c, w.cell? (ad.add k) = some (.slice a (ps.getD k []).length c) ∧ Row .i64 w w.heap.size a (ps.getD k []) ∧ (ps.getD k []).length ≤ maxLen := by
  obtain ⟨ad, e, _, a, c, h1, h2, h3⟩ := h k _ (getD_ex [] hk)
  exact ⟨ad, e, a, c, h1, h2, h3⟩
theorem PP.blk {w : World} {ad : Addr} {ps : List (List Int)} (h : PP w (some ad) ps) {k : Nat} (hk : k < ps.length) : ad.block < w.heap.size := by
  obtain ⟨ad', e, hb, _⟩ := h k _ (getD_ex [] hk)
  injection e with e
  subst e
  exact hb
/-- The rest of a list of numbers. -/
theorem Row.cutI {k : IntKind} {w : World} {B : Nat} {A : Option Addr} {zs : List Int} (h : Row k w B A zs) (n c : Nat) (hc : zs.length ≤ c) : Row k w B (if c = n then A else A.map (·.add (n * 1))) (zs.drop n) := by
  by_cases g : c = n
  · rw [if_pos g, List.drop_eq_nil_of_le (by omega)]
    exact Row.nil
  · rw [if_neg g]
    intro j hj
    rw [List.length_drop] at hj
    obtain ⟨ad, rfl, hb, hv⟩ := h (n + j) (by omega)
    exact ⟨_, rfl, by rw [add_block]; exact hb, by rw [add_add, Nat.mul_one, getD_drop]; exact hv⟩

def cellsB : Cel3 → List Value
  | none => [.bool false, .int .i64 0, .int .i64 0]
  | some z => [.bool true, .int .i64 z.1, .int .i64 (z.2 : Int)]
def exB (x : Cel3) : Bool := x.isSome
def coB (x : Cel3) : Int := (x.getD (0, 0)).1
def piB (x : Cel3) : Int := ((x.getD (0, 0)).2 : Int)
theorem cellsB_eq (x : Cel3) : cellsB x = [.bool (exB x), .int .i64 (coB x), .int .i64 (piB x)] := by cases x <;> rfl
abbrev aggB (x : Cel3) : Value := .agg (cellsB x).toArray
def BR : Rec Cel3 := ⟨3, by decide, cellsB, fun x => by cases x <;> rfl, fun x u hu => by
  rw [cellsB_eq] at hu
  simp only [List.mem_cons, List.not_mem_nil, or_false] at hu
  rcases hu with h | h | h <;> subst h <;> rfl⟩
/-- The cells of division k of a slice, spelt as the walks ask for them. -/
structure BSpelt (w : World) (ad : Addr) (x : Cel3) : Prop where
  c0 : w.cell? ad = some (.bool (exB x))
  c1 : w.cell? ⟨ad.block, ad.off + 1, none⟩ = some (.int .i64 (coB x))
  c2 : w.cell? ⟨ad.block, ad.off + 2, none⟩ = some (.int .i64 (piB x))
theorem BSpelt.of {w : World} {ad : Addr} {k : Nat} {x : Cel3} (h : RCel BR w ad k x) : BSpelt w (ad.add (k * 3)) x :=
  ⟨h.first (R := BR) (by show (cellsB x)[0]? = _; rw [cellsB_eq]; rfl), h.next (R := BR) 1 (by decide) (by show (cellsB x)[1]? = _; rw [cellsB_eq]; rfl), h.next (R := BR) 2 (by decide) (by show (cellsB x)[2]? = _; rw [cellsB_eq]; rfl)⟩
theorem infoB : (Try.prog.info? 55).map (fun i => (i.zero, i.size, i.bytes)) = some (some (aggB none), 3, 24) := by kernel_rfl
theorem flatB_set (l : List Cel3) (i : Nat) (x : Cel3) : BR.flat (l.set i x) = (((BR.flat l).set (i * 3) (.bool (exB x))).set (i * 3 + 1) (.int .i64 (coB x))).set (i * 3 + 2) (.int .i64 (piB x)) := by
  induction l generalizing i with
  | nil => simp [Rec.flat]
  | cons y l ih =>
    cases i with
    | zero =>
      show cellsB x ++ BR.flat l = (((cellsB y ++ BR.flat l).set 0 _).set 1 _).set 2 _
      rw [cellsB_eq x, cellsB_eq y]; rfl
    | succ i =>
      rw [show (i + 1) * 3 = i * 3 + 1 + 1 + 1 by omega]
      show cellsB y ++ BR.flat (l.set i x) = (((cellsB y ++ BR.flat l).set _ _).set _ _).set _ _
      rw [ih, cellsB_eq y]
      rfl
abbrev putB (w : World) (g i : Nat) (x : Cel3) : World := ((w.setCell ⟨g, i * 3, none⟩ (.bool (exB x))).setCell ⟨g, i * 3 + 1, none⟩ (.int .i64 (coB x))).setCell ⟨g, i * 3 + 2, none⟩ (.int .i64 (piB x))
theorem ROwn.putB {T : TypeId} {w : World} {base g n c : Nat} {l : List Cel3} (h : ROwn BR T w base (.slice (some ⟨g, 0, none⟩) n c) l) (hn : n = l.length) (i : Nat) (x : Cel3) :
    ROwn BR T (putB w g i x) base (.slice (some ⟨g, 0, none⟩) n c) (l.set i x) := by
  subst hn
  unfold ROwn
  rw [flatB_set, List.length_set]
  have h0 := (World.ownsRow.stored h (i * 3) (.bool (exB x))).1
  have h1 := (World.ownsRow.stored h0 (i * 3 + 1) (.int .i64 (coB x))).1
  exact (World.ownsRow.stored h1 (i * 3 + 2) (.int .i64 (piB x))).1
theorem below_putB {B : Nat} {a w : World} (h : Below B a w) {g : Nat} (hg : B ≤ g) (i : Nat) (x : Cel3) : Below B a (putB w g i x) :=
  ((h.setCell (p := ⟨g, i * 3, none⟩) hg _).setCell (p := ⟨g, i * 3 + 1, none⟩) hg _).setCell (p := ⟨g, i * 3 + 2, none⟩) hg _
/-- The cells of division k of the call's own list. -/
structure BAt (w : World) (g k : Nat) (x : Cel3) : Prop where
  c0 : w.cell? ⟨g, k * 3, none⟩ = some (.bool (exB x))
  c1 : w.cell? ⟨g, k * 3 + 1, none⟩ = some (.int .i64 (coB x))
  c2 : w.cell? ⟨g, k * 3 + 2, none⟩ = some (.int .i64 (piB x))
theorem ROwn.atB {T : TypeId} {w : World} {base g n c : Nat} {l : List Cel3} (h : ROwn BR T w base (.slice (some ⟨g, 0, none⟩) n c) l) (hn : n = l.length) {k : Nat} {x : Cel3} (hk : l[k]? = some x) : BAt w g k x ∧ ∀ j, w.frozen? ⟨g, j, none⟩ = false := by
  obtain ⟨A, c', e, R, _⟩ := h.full
  injection e with e1 _ _
  subst e1
  obtain ⟨ad, e2, C⟩ := R.at_ hk
  injection e2 with e2
  subst e2
  have hc : ∀ j u, (cellsB x)[j]? = some u → w.cell? ⟨g, k * 3 + j, none⟩ = some u := fun j u hj => by
    have := C.cs j u hj
    rwa [add_own] at this
  rw [cellsB_eq] at hc
  exact ⟨⟨hc 0 _ rfl, hc 1 _ rfl, hc 2 _ rfl⟩, fun j => h.frozen hn j⟩
theorem flatB_made (n : Nat) : BR.flat (List.replicate n none) = (madeCells (cellsB none).toArray (n * 3)).toList := by
  refine List.ext_getElem? fun j => ?_
  by_cases hj : j < n * 3
  · have h8 : j % 3 < (cellsB none).length := Nat.mod_lt _ (by decide)
    have e := flatR_at BR (l := List.replicate n none) (k := j / 3) (x := none) (by rw [List.getElem?_replicate, if_pos (by omega)]) (j := j % 3) (u := (cellsB none)[j % 3]) (List.getElem?_eq_getElem h8)
    have ej : j / 3 * BR.m + j % 3 = j := by show j / 3 * 3 + j % 3 = j; omega
    rw [ej] at e
    rw [e]
    have h8' : j % 3 < 3 := h8
    have hz : (cellsB none).toArray.size = 3 := rfl
    simp only [madeCells, Array.toList_map, Array.toList_range, List.getElem?_map, List.getElem?_range hj, Option.map_some, hz]
    congr 1
    rw [getElem!_pos (cellsB none).toArray (j % 3) h8']
    rfl
  · rw [List.getElem?_eq_none (by rw [flatR_len, List.length_replicate]; show n * 3 ≤ j; omega), List.getElem?_eq_none (by rw [Array.length_toList, size_madeCells]; omega)]
theorem ROwn.madeB {w : World} {base n : Nat} (hb : base ≤ w.heap.size) (hn : n ≤ 1000000) : ROwn BR 55 (w.alloc (.cells (madeCells (cellsB none).toArray (n * 3)) 55)) base (.slice (some ⟨w.heap.size, 0, none⟩) n n) (List.replicate n none) := by
  refine ⟨by rw [flatR_len], Or.inr ⟨w.heap.size, n, _, by rw [List.length_replicate], hb, heap_alloc_new w _, by rw [List.length_replicate]; exact Nat.le_refl _, by unfold maxLen; omega, by rw [size_madeCells]; rfl, ?_⟩⟩
  rw [flatB_made, List.length_replicate]
  exact List.take_of_length_le (by rw [Array.length_toList, size_madeCells]; exact Nat.le_refl _)
/-- Block b holds a division, and may be written. -/
structure BLoc (w : World) (b : Nat) (x : Cel3) : Prop where
  c0 : w.cell? ⟨b, 0, none⟩ = some (.bool (exB x))
  c1 : w.cell? ⟨b, 1, none⟩ = some (.int .i64 (coB x))
  c2 : w.cell? ⟨b, 2, none⟩ = some (.int .i64 (piB x))
  fz : ∀ j, w.frozen? ⟨b, j, none⟩ = false
  lt : b < w.heap.size
theorem BLoc.below {w w' : World} {b : Nat} {x : Cel3} (h : BLoc w b x) (k : Below w.heap.size w w') : BLoc w' b x :=
  ⟨(k.cell (p := ⟨b, 0, none⟩) h.lt).trans h.c0, (k.cell (p := ⟨b, 1, none⟩) h.lt).trans h.c1, (k.cell (p := ⟨b, 2, none⟩) h.lt).trans h.c2, fun j => (k.frozen (p := ⟨b, j, none⟩) h.lt).trans (h.fz j), Nat.lt_of_lt_of_le h.lt k.size⟩
theorem BLoc.drewN {w : World} {b : Nat} {x : Cel3} (h : BLoc w b x) (n : Nat) : BLoc (w.drewN n) b x := h.below ⟨rfl, rfl, rfl, Nat.le_refl _, fun _ _ => rfl⟩
theorem BLoc.alloc {w : World} {b : Nat} {x : Cel3} (h : BLoc w b x) (o : Obj) : BLoc (w.alloc o) b x := h.below ((Below.refl _ _).alloc (Nat.le_refl _) _)
theorem BLoc.new (w : World) (T : TypeId) (b : Nat) (hb : b = w.heap.size) : BLoc (w.alloc (.cells #[.bool false, .int .i64 0, .int .i64 0] T)) b none := by
  subst hb
  have e : (w.alloc (.cells #[.bool false, .int .i64 0, .int .i64 0] T)).heap[w.heap.size]? = some (.cells #[.bool false, .int .i64 0, .int .i64 0] T) := heap_alloc_new w _
  exact ⟨by rw [cell_new]; rfl, by rw [cell_new]; rfl, by rw [cell_new]; rfl, fun j => by unfold World.frozen?; rw [e]; rfl, by simp⟩
abbrev putL (w : World) (b : Nat) (x : Cel3) : World := ((w.setCell ⟨b, 0, none⟩ (.bool (exB x))).setCell ⟨b, 1, none⟩ (.int .i64 (coB x))).setCell ⟨b, 2, none⟩ (.int .i64 (piB x))
theorem BLoc.put {w : World} {b : Nat} {x : Cel3} (h : BLoc w b x) (y : Cel3) : BLoc (putL w b y) b y := by
  have g1 : (w.setCell ⟨b, 0, none⟩ (.bool (exB y))).cell? ⟨b, 1, none⟩ = some (.int .i64 (coB x)) := by rw [World.cell?_setCell_other _ _ _ _ (by simp)]; exact h.c1
  have g2 : ((w.setCell ⟨b, 0, none⟩ (.bool (exB y))).setCell ⟨b, 1, none⟩ (.int .i64 (coB y))).cell? ⟨b, 2, none⟩ = some (.int .i64 (piB x)) := by rw [World.cell?_setCell_other _ _ _ _ (by simp), World.cell?_setCell_other _ _ _ _ (by simp)]; exact h.c2
  refine ⟨?_, ?_, World.cell?_setCell_same _ _ _ g2, fun j => by rw [World.frozen?_setCell, World.frozen?_setCell, World.frozen?_setCell]; exact h.fz j, by rw [World.size_setCell, World.size_setCell, World.size_setCell]; exact h.lt⟩
  · rw [World.cell?_setCell_other _ _ _ _ (by simp), World.cell?_setCell_other _ _ _ _ (by simp)]
    exact World.cell?_setCell_same _ _ _ h.c0
  · rw [World.cell?_setCell_other _ _ _ _ (by simp)]
    exact World.cell?_setCell_same _ _ _ g1
theorem BLoc.putOther {w : World} {b g : Nat} {x y : Cel3} (h : BLoc w b x) (hn : g ≠ b) : BLoc (putL w g y) b x := by
  have ne : ∀ i j, (⟨g, i, none⟩ : Addr) ≠ ⟨b, j, none⟩ := fun i j e => hn (congrArg Addr.block e)
  refine ⟨?_, ?_, ?_, fun j => by rw [World.frozen?_setCell, World.frozen?_setCell, World.frozen?_setCell]; exact h.fz j, by rw [World.size_setCell, World.size_setCell, World.size_setCell]; exact h.lt⟩
  · rw [World.cell?_setCell_other _ _ _ _ (ne _ _), World.cell?_setCell_other _ _ _ _ (ne _ _), World.cell?_setCell_other _ _ _ _ (ne _ _)]; exact h.c0
  · rw [World.cell?_setCell_other _ _ _ _ (ne _ _), World.cell?_setCell_other _ _ _ _ (ne _ _), World.cell?_setCell_other _ _ _ _ (ne _ _)]; exact h.c1
  · rw [World.cell?_setCell_other _ _ _ _ (ne _ _), World.cell?_setCell_other _ _ _ _ (ne _ _), World.cell?_setCell_other _ _ _ _ (ne _ _)]; exact h.c2
theorem below_putL {B : Nat} {a w : World} (h : Below B a w) {g : Nat} (hg : B ≤ g) (x : Cel3) : Below B a (putL w g x) :=
  ((h.setCell (p := ⟨g, 0, none⟩) hg _).setCell (p := ⟨g, 1, none⟩) hg _).setCell (p := ⟨g, 2, none⟩) hg _
theorem BLoc.blk {w : World} {b : Nat} {x : Cel3} (h : BLoc w b x) : RBlk BR w b x := ⟨fun j u hj => by
  have hj : (cellsB x)[j]? = some u := hj
  rw [cellsB_eq] at hj
  have hl : j < 3 := by have := (List.getElem?_eq_some_iff.1 hj).1; simpa using this
  rcases (by omega : j = 0 ∨ j = 1 ∨ j = 2) with rfl | rfl | rfl
  · injection hj with hj; subst hj; exact h.c0
  · injection hj with hj; subst hj; exact h.c1
  · injection hj with hj; subst hj; exact h.c2, h.lt⟩
theorem infoB3 : (Try.prog.info? 55).map (·.size) = some BR.m := by kernel_rfl
end Go.Proofs.Ytgiodpepjajlmaa
