/-
  Stage 11: a job that is gathered item by item, in a block of its own.
-/
import Derived.Test.YtpimdcljecipeaaJLaw
set_option linter.unusedSimpArgs false
set_option linter.unusedVariables false
namespace Go.Proofs.Ytpimdcljecipeaa
open Go.RowKit Go.Lib

/-- Two lists of the call's own lie apart. -/
def Apt (u v : Value) : Prop := ∀ g, u.ownBlock = some g → v.ownBlock ≠ some g
theorem Apt.symm {u v : Value} (h : Apt u v) : Apt v u := fun g h1 h2 => h g h2 h1
/-- What is known while the items of one train are gathered. -/
structure TSt (w5 wr : World) (bp base : Nat) (Ap : Option Addr) (cp : Nat) (wt : Int) (ps : List It) (vw : Value) (zs : List Int) : Prop where
  box : JBox wr bp Ap ps.length cp wt
  fz : ∀ j, wr.frozen? ⟨bp, j, none⟩ = false
  its : IOwn 44 wr base (.slice Ap ps.length cp) ps
  wan : Own .i64 3 wr base vw zs
  apt : Apt (.slice Ap ps.length cp) vw
  bel : Below bp w5 wr
  lt : bp < base
  le : base ≤ wr.heap.size
theorem TSt.below {w5 wr wr' : World} {bp base cp : Nat} {Ap : Option Addr} {wt : Int} {ps : List It} {vw : Value} {zs : List Int} (h : TSt w5 wr bp base Ap cp wt ps vw zs) (k : Below wr.heap.size wr wr') : TSt w5 wr' bp base Ap cp wt ps vw zs :=
  ⟨h.box.below k h.box.lt, fun j => (k.frozen (p := ⟨bp, j, none⟩) h.box.lt).trans (h.fz j), h.its.below k, h.wan.below k, h.apt, h.bel.trans (k.mono (Nat.le_of_lt h.box.lt)), h.lt, Nat.le_trans h.le k.size⟩
theorem TSt.app {w5 W w' : World} {bp base cp g cap : Nat} {Ap : Option Addr} {wt : Int} {ps : List It} {vw : Value} {zs : List Int} {p : It} (h : TSt w5 W bp base Ap cp wt ps vw zs)
    (ho : IOwn 44 w' base (.slice (some ⟨g, 0, none⟩) (ps ++ [p]).length cap) (ps ++ [p])) (hg : W.grownBy w' (Value.slice Ap ps.length cp).ownBlock) (hat : (Value.slice Ap ps.length cp).ownBlock = some g ∨ g = W.heap.size) :
    TSt w5 (w'.setCell ⟨bp, 0, none⟩ (.slice (some ⟨g, 0, none⟩) (ps ++ [p]).length cap)) bp base (some ⟨g, 0, none⟩) cap wt (ps ++ [p]) vw zs ∧ (∃ u, w'.cell? ⟨bp, 0, none⟩ = some u) ∧ w'.frozen? ⟨bp, 0, none⟩ = false := by
  have hne : ∀ k, (Value.slice Ap ps.length cp).ownBlock = some k → bp < k := fun k hk => by have := (h.its.block hk).1; have := h.lt; omega
  have hbp : (Value.slice Ap ps.length cp).ownBlock ≠ some bp := fun e => by have := hne bp e; omega
  have hgb : bp < g := by
    rcases hat with e | e
    · exact hne g e
    · have := h.le; have := h.lt; omega
  have hblk : w'.heap[bp]? = W.heap[bp]? := hg.block bp h.box.lt (fun e => hbp e.symm)
  have c0 : w'.cell? ⟨bp, 0, none⟩ = some (.slice Ap ps.length cp) := (World.cell?_of_block (w := W) hblk).trans h.box.c0
  have c1 : w'.cell? ⟨bp, 1, none⟩ = some (.int .i64 wt) := (World.cell?_of_block (w := W) hblk).trans h.box.c1
  have f : ∀ j, w'.frozen? ⟨bp, j, none⟩ = false := fun j => (World.frozen?_of_block (w := W) hblk).trans (h.fz j)
  have gs : w'.grownBy (w'.setCell ⟨bp, 0, none⟩ (.slice (some ⟨g, 0, none⟩) (ps ++ [p]).length cap)) (some bp) :=
    ⟨rfl, rfl, rfl, by rw [World.size_setCell]; exact Nat.le_refl _, fun k hk hn => Below.heap_setCell _ _ _ _ (fun e => hn (by first | exact congrArg some e | exact congrArg some e.symm))⟩
  have hvne : ∀ k, vw.ownBlock = some k → base ≤ k ∧ k < W.heap.size := fun k hk => own_block h.wan hk
  have wan1 : Own .i64 3 w' base vw zs := h.wan.kept hg (by
    cases hv : vw.ownBlock with
    | none => exact Or.inl rfl
    | some k => exact Or.inr (fun e => h.apt k e.symm hv))
  refine ⟨⟨⟨World.cell?_setCell_same _ _ _ c0, (World.cell?_setCell_other _ _ _ _ (by simp)).trans c1, by rw [World.size_setCell]; exact Nat.lt_of_lt_of_le h.box.lt hg.size⟩, fun j => by rw [World.frozen?_setCell]; exact f j, ?_, ?_, ?_, ?_, h.lt, by rw [World.size_setCell]; exact Nat.le_trans h.le hg.size⟩, ⟨_, c0⟩, f 0⟩
  · exact ho.kept gs (Or.inr (fun e => by have : g = bp := by simpa [Value.ownBlock] using e
                                          omega))
  · refine wan1.kept gs ?_
    cases hv : vw.ownBlock with
    | none => exact Or.inl rfl
    | some k => exact Or.inr (fun e => by have := (hvne k hv).1; have := h.lt; have : k = bp := by simpa using e
                                          omega)
  · intro k hk hv
    have e : g = k := by simpa [Value.ownBlock] using hk
    subst e
    rcases hat with e | e
    · exact h.apt g e hv
    · have := (hvne g hv).2; omega
  · exact ((h.bel.grown hg (Nat.le_of_lt h.box.lt) (fun k hk => Nat.le_of_lt (hne k hk))).setCell (p := ⟨bp, 0, none⟩) (Nat.le_refl bp) _)
theorem TSt.want {w5 W w' : World} {bp base cp : Nat} {Ap : Option Addr} {wt : Int} {ps : List It} {vw v' : Value} {zs : List Int} {y : Int} (h : TSt w5 W bp base Ap cp wt ps vw zs) (A : AppI base vw zs y W v' w') :
    TSt w5 w' bp base Ap cp wt ps v' (zs ++ [y]) := by
  obtain ⟨O, hg, g, c, rfl, hlt, hat⟩ := A
  have hvb : ∀ k, vw.ownBlock = some k → base ≤ k := fun k hk => (own_block h.wan hk).1
  have hblk : w'.heap[bp]? = W.heap[bp]? := hg.block bp h.box.lt (fun e => by have := hvb bp e.symm; have := h.lt; omega)
  refine ⟨⟨(World.cell?_of_block (w := W) hblk).trans h.box.c0, (World.cell?_of_block (w := W) hblk).trans h.box.c1, Nat.lt_of_lt_of_le h.box.lt hg.size⟩, fun j => (World.frozen?_of_block (w := W) hblk).trans (h.fz j), h.its.kept hg ?_, O, ?_, h.bel.grown hg (Nat.le_of_lt h.box.lt) (fun k hk => by have := hvb k hk; have := h.lt; omega), h.lt, Nat.le_trans h.le hg.size⟩
  · cases hv : (Value.slice Ap ps.length cp).ownBlock with
    | none => exact Or.inl rfl
    | some k => exact Or.inr (fun e => h.apt k hv e.symm)
  · intro k hk hv
    have e : g = k := by simpa [Value.ownBlock] using hv
    subst e
    rcases hat with e | e
    · exact h.apt g hk e
    · have := (h.its.block hk).2; omega
end Go.Proofs.Ytpimdcljecipeaa
