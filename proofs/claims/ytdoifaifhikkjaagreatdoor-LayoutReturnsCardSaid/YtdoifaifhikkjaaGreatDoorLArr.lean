/-
  Stage 9: an array of numbers in a block of its own.
-/
import Derived.Test.YtdoifaifhikkjaaGreatDoorNum
import Derived.Laws.Rows
import Derived.Laws.Tables
import Derived.Deep.WholeRow
set_option linter.unusedSimpArgs false
set_option linter.unusedVariables false
namespace Go.Proofs.YtdoifaifhikkjaaGreatDoor
open Go.RowKit

/-- Block b holds the numbers zs. -/
def Blk (w : World) (b : Nat) (T : TypeId) (zs : List Int) : Prop := w.heap[b]? = some (.cells (zs.map (Value.int .i64)).toArray T (0, 0))
theorem Blk.lt {w : World} {b : Nat} {T : TypeId} {zs : List Int} (h : Blk w b T zs) : b < w.heap.size := (Array.getElem?_eq_some_iff.1 h).1
theorem Blk.below {w w' : World} {b : Nat} {T : TypeId} {zs : List Int} (h : Blk w b T zs) (k : Below w.heap.size w w') : Blk w' b T zs := (k.block b h.lt).trans h
theorem Blk.alloc {w : World} {b : Nat} {T : TypeId} {zs : List Int} (h : Blk w b T zs) (o : Obj) : Blk (w.alloc o) b T zs := h.below ((Below.refl _ _).alloc (Nat.le_refl _) _)
theorem Blk.cell {w : World} {b : Nat} {T : TypeId} {zs : List Int} (h : Blk w b T zs) (j : Nat) (hj : j < zs.length) : w.cell? ⟨b, j, none⟩ = some (.int .i64 (zs.getD j 0)) := by
  rw [cell_of_row w b j _ T (0, 0) h]
  simp [hj]
theorem Blk.frozen {w : World} {b : Nat} {T : TypeId} {zs : List Int} (h : Blk w b T zs) (j : Nat) : w.frozen? ⟨b, j, none⟩ = false := frozen_of_row w b j _ T h
theorem Blk.set {w : World} {b : Nat} {T : TypeId} {zs : List Int} (h : Blk w b T zs) (j : Nat) (x : Int) : Blk (w.setCell ⟨b, j, none⟩ (.int .i64 x)) b T (zs.set j x) := by
  have := heap_setCell_same w b j _ T (.int .i64 x) h
  unfold Blk
  rw [this]
  simp
theorem Blk.setOther {w : World} {b c : Nat} {T : TypeId} {zs : List Int} (h : Blk w b T zs) (hc : b ≠ c) (j : Nat) (x : Value) : Blk (w.setCell ⟨c, j, none⟩ x) b T zs := by
  unfold Blk
  rw [heap_setCell_other w _ b _ hc]; exact h
theorem Blk.drew {w : World} {b : Nat} {T : TypeId} {zs : List Int} (h : Blk w b T zs) : Blk w.drew b T zs := h
theorem Blk.drewN {w : World} {b n : Nat} {T : TypeId} {zs : List Int} (h : Blk w b T zs) : Blk (w.drewN n) b T zs := h
theorem Blk.new (w : World) (T : TypeId) (zs : List Int) : Blk (w.alloc (.cells (zs.map (Value.int .i64)).toArray T)) w.heap.size T zs := heap_alloc_new w _

/-- A whole array into its block. -/
theorem wpList_store_row {P : Program} {ops : Array Oper} {rest : List Oper} {o : Oper} {a : Act} {w : World} {Q : Exit → Act → World → Prop} (hgd : o.guard = none) (ty : TypeId) (p x : Operand) (ho : o.op = .store ty p x)
    (g : Nat) (cs old : Array Value) (t : TypeId) (hp : a.eval p = .pointer (some ⟨g, 0, none⟩)) (hx : a.eval x = .agg cs) (hg : w.heap[g]? = some (.cells old t (0, 0)))
    (hi : (P.info? ty).map (·.size) = some cs.size) (hs : old.size = cs.size) (h1 : cs.all (·.oneCell') = true)
    (h : wpList P ops Q rest (a.put o.dst undef) (w.setRow g cs)) : wpList P ops Q (o :: rest) a w := by
  refine wpList_plain hgd fun K hK => ?_
  have e := run_storeVar_row (P := P) w g t ty old cs hg hi hs h1
  unfold Oper.wp execOp
  simp only [ho, hp, hx, Instr.storeAt, Instr.sureAddr, Sem.run_bind, Sem.run_pure, Result.andThen_ok, e]
  exact hK _ _ h
theorem Blk.row {w : World} {b : Nat} {T : TypeId} {zs : List Int} (h : Blk w b T zs) (ys : List Int) : Blk (w.setRow b (ys.map (Value.int .i64)).toArray) b T ys := setRow_heap w b _ _ T (0, 0) h
theorem below_setRow {B : Nat} {a w : World} (h : Below B a w) {g : Nat} (hg : B ≤ g) (cs : Array Value) : Below B a (w.setRow g cs) :=
  ⟨h.os, h.tape, h.output, by rw [size_setRow]; exact h.size, fun k hk => (setRow_other w g k cs (by omega)).trans (h.block k hk)⟩
abbrev arr (zs : List Int) : Value := .agg (zs.map (Value.int .i64)).toArray
end Go.Proofs.YtdoifaifhikkjaaGreatDoor
