/-
  Stage 8: the iterator's maker, and its contract; what abides a loop's book-keeping; what possible edits leave of a state.
-/
import Derived.Test.YtbdiilkdajadcaaDoorRPoss
set_option linter.unusedSimpArgs false
set_option linter.unusedVariables false
namespace Go.Proofs.YtbdiilkdajadcaaDoor
open Go.RowKit Go.Shelf
attribute [local go_sem] Oper.semAt_some

abbrev posW (w : World) (A : Option Addr) (la ca : Nat) (B : Option Addr) (lb cb : Nat) : World := (w.alloc (.cells #[.slice A la ca] 22)).alloc (.cells #[.slice B lb cb] 22)
theorem possible_any (A B : Option Addr) (la ca lb cb : Nat) (w : World) :
    Calls Tryd.prog 28 #[.slice A la ca, .slice B lb cb] w fun e w' => e = .returned (.func (.func 37) #[] #[.pointer (some ⟨w.heap.size, 0, none⟩), .pointer (some ⟨w.heap.size + 1, 0, none⟩)]) ∧ w' = posW w A la ca B lb cb := by
  go_enter Tryd.func28, Tryd.ntmps28
  go_wp2_with fail
  go_ret
  exact ⟨rfl, rfl⟩
theorem poss_stops (n : Nat) (hn : 1 ≤ n) (x y : List Int) (A B : Option Addr) (ca cb Ba Bb n₀ : Nat) (lx : x.length ≤ 1000000000) (ly : y.length ≤ 1000000000) (w : World)
    (hBa : w.cell? ⟨Ba, 0, none⟩ = some (.slice A x.length ca)) (hBb : w.cell? ⟨Bb, 0, none⟩ = some (.slice B y.length cb)) (hK : Knd w) (h0 : 0 < n₀) (hn0 : n₀ ≤ w.heap.size)
    (hx : Row .i64 w n₀ A x) (hy : Row .i64 w n₀ B y) :
    SeqStopsK Fence.wide n Tryd.prog 37 #[.pointer (some ⟨Ba, 0, none⟩), .pointer (some ⟨Bb, 0, none⟩)] (fun z : Pos x y => encP z) (KpP n₀ Ba Bb) (fun ys => ys = poss x y 5) (fun pre => pre <+: poss x y 5) 5 w := fun l J Jx W hW hJ hJx hY hj0 =>
  poss1_in n hn x y A B ca cb l Ba Bb n₀ J Jx lx ly hY W ((hW.cell (p := ⟨Ba, 0, none⟩) (lt_of_cell hBa)).trans hBa) ((hW.cell (p := ⟨Bb, 0, none⟩) (lt_of_cell hBb)).trans hBb) (hK.below' hW) h0 (Nat.le_trans hn0 hW.size)
    (hx.under (hW.mono hn0)) (hy.under (hW.mono hn0)) hJ hj0
theorem ownFrom_stable {β : Type} {B : Nat} {I : β → World → Prop} (hs : ∀ s W, I s W → B ≤ W.heap.size) (h : ∀ s W W', I s W → Below B W W' → I s W') : OwnFrom B I :=
  fun s W W' row hI hg hr => h s W W' hI ((Below.refl B W).grown hg (hs s W hI) (fun k e => (hr k e).1))
theorem KpP.put {n₀ Ba Bb : Nat} {w : World} (hl : n₀ ≤ w.heap.size) (ha : Ba < w.heap.size) (hb : Bb < w.heap.size) (W : World) (l : Nat) (o o' : Obj) (h1 : w.heap.size ≤ l) (h2 : W.heap[l]? = some o) (h3 : o.isCells = false) (h4 : o.isWalk = false) : KpP n₀ Ba Bb W (W.putObj l o') := by
  have g := grownBy_putObj' W l o'
  have hlt := (Array.getElem?_eq_some_iff.1 h2).1
  exact ⟨(Below.refl n₀ W).grown g (by omega) (fun k e => by cases e; omega), g.block _ (by omega) (fun e => by cases e; omega), g.block _ (by omega) (fun e => by cases e; omega), g.size⟩
theorem KpP.refl {n₀ Ba Bb : Nat} (W : World) : KpP n₀ Ba Bb W W := ⟨Below.refl _ _, rfl, rfl, Nat.le_refl _⟩
/-- A store into another block. -/
theorem KpP.set {n₀ Ba Bb : Nat} {X W : World} (h : KpP n₀ Ba Bb X W) {p : Addr} (h0 : n₀ ≤ p.block) (ha : p.block ≠ Ba) (hb : p.block ≠ Bb) (u : Value) : KpP n₀ Ba Bb X (W.setCell p u) :=
  ⟨h.bel.setCell h0 u, (Below.heap_setCell _ _ _ _ (fun e => ha e.symm)).trans h.a, (Below.heap_setCell _ _ _ _ (fun e => hb e.symm)).trans h.b, by rw [World.size_setCell]; exact h.size⟩
theorem KpP.al {n₀ Ba Bb : Nat} {X W : World} (h : KpP n₀ Ba Bb X W) (h0 : n₀ ≤ W.heap.size) (ha : Ba < W.heap.size) (hb : Bb < W.heap.size) (o : Obj) : KpP n₀ Ba Bb X (W.alloc o) :=
  h.t (KpP.of_below ((Below.refl _ _).alloc (Nat.le_refl _) _) h0 ha hb)
end Go.Proofs.YtbdiilkdajadcaaDoor
