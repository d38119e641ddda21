/-
  Local structs and lists: what a walk carries of them from world to world.
-/
import Derived.Test.YtdoifaifhikkjaaGreatDoorMaker
set_option linter.unusedSimpArgs false
set_option linter.unusedVariables false
namespace Go.Proofs.YtdoifaifhikkjaaGreatDoor
open Go.RowKit

/-- Block b holds the interval from lo to hi. -/
structure Loc (w : World) (b : Nat) (lo hi : Int) : Prop where
  c0 : w.cell? ⟨b, 0, none⟩ = some (.int .i64 lo)
  c1 : w.cell? ⟨b, 1, none⟩ = some (.int .i64 hi)
  lt : b < w.heap.size
theorem Loc.below {w w' : World} {b : Nat} {lo hi : Int} (h : Loc w b lo hi) (k : Below w.heap.size w w') : Loc w' b lo hi :=
  ⟨(k.cell (p := ⟨b, 0, none⟩) h.lt).trans h.c0, (k.cell (p := ⟨b, 1, none⟩) h.lt).trans h.c1, Nat.lt_of_lt_of_le h.lt k.size⟩
theorem Loc.moves {w w' : World} {m b : Nat} {lo hi : Int} (h : Loc w b lo hi) (k : Moves m w w') (hm : b ≠ m) : Loc w' b lo hi :=
  ⟨(k.cell (p := ⟨b, 0, none⟩) h.lt hm).trans h.c0, (k.cell (p := ⟨b, 1, none⟩) h.lt hm).trans h.c1, Nat.lt_of_lt_of_le h.lt k.size⟩
theorem Loc.alloc {w : World} {b : Nat} {lo hi : Int} (h : Loc w b lo hi) (o : Obj) : Loc (w.alloc o) b lo hi := h.below ((Below.refl _ _).alloc (Nat.le_refl _) _)
theorem Loc.drewN {w : World} {b n : Nat} {lo hi : Int} (h : Loc w b lo hi) : Loc (w.drewN n) b lo hi := h.below ⟨rfl, rfl, rfl, Nat.le_refl _, fun _ _ => rfl⟩
theorem Loc.drew {w : World} {b : Nat} {lo hi : Int} (h : Loc w b lo hi) : Loc w.drew b lo hi := h.below ⟨rfl, rfl, rfl, Nat.le_refl _, fun _ _ => rfl⟩
theorem Loc.new {w : World} {lo hi : Int} {T : TypeId} (b : Nat) (hb : b = w.heap.size) : Loc (w.alloc (.cells #[.int .i64 lo, .int .i64 hi] T)) b lo hi := by
  subst hb; exact ⟨by rw [cell_new]; rfl, by rw [cell_new]; rfl, by simp⟩

/-- Block b holds a list of n numbers. -/
structure Lst (w : World) (b n : Nat) : Prop where
  cs : ∀ j, j < n → ∃ v : Int, w.cell? ⟨b, j, none⟩ = some (.int .i64 v)
  lt : b < w.heap.size
theorem Lst.below {w w' : World} {b n : Nat} (h : Lst w b n) (k : Below w.heap.size w w') : Lst w' b n :=
  ⟨fun j hj => let ⟨v, hv⟩ := h.cs j hj; ⟨v, (k.cell (p := ⟨b, j, none⟩) h.lt).trans hv⟩, Nat.lt_of_lt_of_le h.lt k.size⟩
theorem Lst.new {w : World} {zs : List Int} {T : TypeId} (b : Nat) (hb : b = w.heap.size) : Lst (w.alloc (.cells (zs.map (Value.int .i64)).toArray T)) b zs.length :=
  ⟨fun j hj => let ⟨v, hv, _⟩ := new_pick w T (fun _ => True) zs (fun _ _ => trivial) b hb j hj; ⟨v, hv⟩, by subst hb; simp⟩

theorem IsMk.drew {w : World} {m N : Nat} (h : IsMk w m N) : IsMk w.drew m N := h.stays' ⟨rfl, rfl, rfl, Nat.le_refl _, fun _ _ => rfl⟩
theorem Below.dr {B : Nat} {a b : World} (h : Below B a b) : Below B a b.drew := h.drew

/-- What holds at the head of each round of a law over a maker. -/
structure Rnd (w wr : World) (N : Nat) : Prop where
  mkr : IsMk wr w.heap.size N
  bel : Below w.heap.size w wr
theorem Rnd.lt {w wr : World} {N : Nat} (h : Rnd w wr N) : w.heap.size < wr.heap.size := h.mkr.lt
theorem Rnd.le {w wr : World} {N : Nat} (h : Rnd w wr N) : w.heap.size ≤ wr.heap.size := Nat.le_of_lt h.mkr.lt
theorem Rnd.step {w a b : World} {N M : Nat} (h : Rnd w a N) (k : Moves w.heap.size a b) (g : IsMk b w.heap.size M) : Rnd w b M := ⟨g, k.below h.bel (Nat.le_refl _) h.le⟩
theorem Rnd.below {w a b : World} {N : Nat} (h : Rnd w a N) (k : Below a.heap.size a b) : Rnd w b N := ⟨h.mkr.stays' k, h.bel.trans (k.mono h.le)⟩
theorem Rnd.alloc {w a : World} {N : Nat} (h : Rnd w a N) (o : Obj) : Rnd w (a.alloc o) N := h.below ((Below.refl _ _).alloc (Nat.le_refl _) _)
theorem Rnd.drewN {w a : World} {N n : Nat} (h : Rnd w a N) : Rnd w (a.drewN n) N := h.below ⟨rfl, rfl, rfl, Nat.le_refl _, fun _ _ => rfl⟩
theorem Rnd.drew {w a : World} {N : Nat} (h : Rnd w a N) : Rnd w a.drew N := h.below ⟨rfl, rfl, rfl, Nat.le_refl _, fun _ _ => rfl⟩
theorem Rnd.more {w a : World} {N M : Nat} (h : Rnd w a N) (k : N ≤ M) : Rnd w a M := ⟨h.mkr.more k, h.bel⟩
theorem Rnd.new {w : World} {a : Option Addr} {len cap : Nat} {zs : List Int} {T : TypeId} (h : IsRow .i64 w a len cap zs) : Rnd w (w.alloc (.cells #[.slice a len cap, .int .i64 0] T)) 0 :=
  ⟨mk_new h, (Below.refl _ _).alloc (Nat.le_refl _) _⟩

/-- Block b may be written. -/
structure Frz (w : World) (b : Nat) : Prop where
  f0 : w.frozen? ⟨b, 0, none⟩ = false
  f1 : w.frozen? ⟨b, 1, none⟩ = false
  lt : b < w.heap.size
theorem Frz.below {w w' : World} {b : Nat} (h : Frz w b) (k : Below w.heap.size w w') : Frz w' b :=
  ⟨(k.frozen (p := ⟨b, 0, none⟩) h.lt).trans h.f0, (k.frozen (p := ⟨b, 1, none⟩) h.lt).trans h.f1, Nat.lt_of_lt_of_le h.lt k.size⟩
theorem Frz.moves {w w' : World} {m b : Nat} (h : Frz w b) (k : Moves m w w') (hm : b ≠ m) : Frz w' b :=
  ⟨(k.frozen (p := ⟨b, 0, none⟩) h.lt hm).trans h.f0, (k.frozen (p := ⟨b, 1, none⟩) h.lt hm).trans h.f1, Nat.lt_of_lt_of_le h.lt k.size⟩
theorem Frz.alloc {w : World} {b : Nat} (h : Frz w b) (o : Obj) : Frz (w.alloc o) b := h.below ((Below.refl _ _).alloc (Nat.le_refl _) _)
theorem Frz.new {w : World} {cs : Array Value} {T : TypeId} (b : Nat) (hb : b = w.heap.size) : Frz (w.alloc (.cells cs T)) b := by
  subst hb
  have e : (w.alloc (.cells cs T)).heap[w.heap.size]? = some (.cells cs T) := by
    show (w.heap.push _)[w.heap.size]? = _
    rw [Array.getElem?_push, if_pos rfl]
  exact ⟨by unfold World.frozen?; rw [e]; rfl, by unfold World.frozen?; rw [e]; rfl, by simp⟩
theorem Frz.put {w : World} {b c : Nat} {u v : Value} (h : Frz w b) : Frz ((w.setCell ⟨c, 0, none⟩ u).setCell ⟨c, 1, none⟩ v) b :=
  ⟨by rw [World.frozen?_setCell, World.frozen?_setCell]; exact h.f0, by rw [World.frozen?_setCell, World.frozen?_setCell]; exact h.f1, by rw [World.size_setCell, World.size_setCell]; exact h.lt⟩
theorem Loc.put_same {w : World} {b : Nat} {lo hi p q : Int} (h : Loc w b lo hi) : Loc ((w.setCell ⟨b, 0, none⟩ (.int .i64 p)).setCell ⟨b, 1, none⟩ (.int .i64 q)) b p q := by
  have g : (w.setCell ⟨b, 0, none⟩ (.int .i64 p)).cell? ⟨b, 1, none⟩ = some (.int .i64 hi) := by rw [World.cell?_setCell_other _ _ _ _ (by simp)]; exact h.c1
  refine ⟨?_, World.cell?_setCell_same _ _ _ g, by rw [World.size_setCell, World.size_setCell]; exact h.lt⟩
  rw [World.cell?_setCell_other _ _ _ _ (by simp)]
  exact World.cell?_setCell_same _ _ _ h.c0
theorem Loc.put_other {w : World} {b c : Nat} {lo hi : Int} {u v : Value} (h : Loc w b lo hi) (hc : c ≠ b) : Loc ((w.setCell ⟨c, 0, none⟩ u).setCell ⟨c, 1, none⟩ v) b lo hi := by
  have ne : ∀ i j, (⟨c, i, none⟩ : Addr) ≠ ⟨b, j, none⟩ := fun i j e => hc (congrArg Addr.block e)
  exact ⟨by rw [World.cell?_setCell_other _ _ _ _ (ne _ _), World.cell?_setCell_other _ _ _ _ (ne _ _)]; exact h.c0, by rw [World.cell?_setCell_other _ _ _ _ (ne _ _), World.cell?_setCell_other _ _ _ _ (ne _ _)]; exact h.c1, by rw [World.size_setCell, World.size_setCell]; exact h.lt⟩
theorem Rnd.put {w a : World} {N c : Nat} {u v : Value} (h : Rnd w a N) (hc : w.heap.size < c) : Rnd w ((a.setCell ⟨c, 0, none⟩ u).setCell ⟨c, 1, none⟩ v) N :=
  ⟨(h.mkr.setCell hc _).setCell hc _, (h.bel.setCell (Nat.le_of_lt hc) _).setCell (Nat.le_of_lt hc) _⟩

end Go.Proofs.YtdoifaifhikkjaaGreatDoor
