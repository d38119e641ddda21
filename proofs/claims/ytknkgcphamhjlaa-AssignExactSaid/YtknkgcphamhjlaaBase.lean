/-
  What all walks of this project use: small lemmas on worlds, endings, cells; the minimum of two and of four.
-/
import Derived.Test.YtknkgcphamhjlaaRows
import Derived.WalkKit
import Derived.WalkSpells
import Derived.WalkLawsBesides
import Derived.Deep.QuietTactic
import Derived.BigQuiet
import Derived.Lib.Hide
import Derived.Handy
import Derived.Deep.RegionHeld3
import Derived.Deep.DeepCutAuto
import Derived.BigRegion
set_option linter.unusedSimpArgs false
set_option linter.unusedVariables false
namespace Go.Proofs.Ytknkgcphamhjlaa
open Go.RowKit

theorem ret_int {k : IntKind} {a b : Int} (h : a = b) : Ending.returned (.int k a) = .returned (.int k b) := by rw [h]
theorem ret_bool {a b : Bool} (h : a = b) : Ending.returned (.bool a) = .returned (.bool b) := by rw [h]
/-- A number and an error's number; a string and an error's number. -/
abbrev R2 (t : Int × Int) : Value := .tuple #[.int .i64 t.1, .int .i64 t.2]
abbrev RS (t : ByteArray × Int) : Value := .tuple #[.string t.1, .int .i64 t.2]
theorem ret_r2 {a b : Int} {t : Int × Int} (h : t = (a, b)) : Ending.returned (.tuple #[.int .i64 a, .int .i64 b]) = .returned (R2 t) := by rw [h]
theorem ret_r2' {t u : Int × Int} (h : t = u) : Ending.returned (.tuple #[.int .i64 u.1, .int .i64 u.2]) = .returned (R2 t) := by rw [h]
theorem ret_rs {a : ByteArray} {b : Int} {t : ByteArray × Int} (h : t = (a, b)) : Ending.returned (.tuple #[.string a, .int .i64 b]) = .returned (RS t) := by rw [h]
theorem ret_rs' {t u : ByteArray × Int} (h : t = u) : Ending.returned (.tuple #[.string u.1, .int .i64 u.2]) = .returned (RS t) := by rw [h]
theorem ret_str {a b : ByteArray} (h : a = b) : Ending.returned (.string a) = .returned (.string b) := by rw [h]

/-- What a walk is told of a slice of integers that came in: it is nil, or it leads to a row of cells. -/
def IsRow (k : IntKind) (w : World) (a : Option Addr) (len cap : Nat) (zs : List Int) : Prop :=
  (a = none ∧ len = 0 ∧ cap = 0 ∧ zs = []) ∨
  ∃ x, a = some x ∧ len ≤ cap ∧ cap ≤ maxLen ∧ zs.length = cap ∧ (∀ i, i < zs.length → w.cell? (x.add i) = some (.int k (zs.getD i 0))) ∧ ∀ n ∈ zs, (Lit.int k n).wf = true

theorem bcell {W w1 : World} (hb : Below W.heap.size W w1) : (∀ b o, b < W.heap.size → w1.cell? ⟨b, o, none⟩ = W.cell? ⟨b, o, none⟩) ∧ (∀ b o, b < W.heap.size → w1.frozen? ⟨b, o, none⟩ = W.frozen? ⟨b, o, none⟩) :=
  ⟨fun b o h => hb.cell (p := ⟨b, o, none⟩) h, fun b o h => hb.frozen (p := ⟨b, o, none⟩) h⟩

theorem bdn {B : Nat} {w w1 : World} {n : Nat} (h : Below B w w1) : Below B w (w1.drewN n) := ⟨h.os, h.tape, h.output, h.size, h.block⟩
theorem below1 {w w1 : World} {o1 : Obj} (hb : Below (w.alloc o1).heap.size (w.alloc o1) w1) : Below w.heap.size w w1 :=
  ((Below.refl _ _).alloc (Nat.le_refl _) o1).trans (hb.mono (by simp))
theorem below2 {w w1 : World} {o1 o2 : Obj} (hb : Below ((w.alloc o1).alloc o2).heap.size ((w.alloc o1).alloc o2) w1) : Below w.heap.size w w1 :=
  ((Below.refl _ _).alloc (Nat.le_refl _) o1).trans ((below1 hb).mono (by simp))
theorem below3 {w w1 : World} {o1 o2 o3 : Obj} (hb : Below (((w.alloc o1).alloc o2).alloc o3).heap.size (((w.alloc o1).alloc o2).alloc o3) w1) : Below w.heap.size w w1 :=
  ((Below.refl _ _).alloc (Nat.le_refl _) o1).trans ((below2 hb).mono (by simp))

theorem cell_new (W : World) (cs : Array Value) (T : TypeId) (i : Nat) : (W.alloc (.cells cs T)).cell? ⟨W.heap.size, i, none⟩ = cs[i]? := by
  have e : (W.alloc (.cells cs T)).heap[W.heap.size]? = some (.cells cs T) := by
    show (W.heap.push _)[W.heap.size]? = _
    rw [Array.getElem?_push, if_pos rfl]
  unfold World.cell?
  rw [e]
  rfl

/-- The cells of a list of numbers that the call has just made. -/
theorem new_pick (W : World) (T : TypeId) (P : Int → Prop) (zs : List Int) (h : ∀ z ∈ zs, P z) (b : Nat) (hb : b = W.heap.size) (i : Nat) (hi : i < zs.length) :
    ∃ z : Int, (W.alloc (.cells (zs.map (Value.int .i64)).toArray T)).cell? ⟨b, i, none⟩ = some (.int .i64 z) ∧ P z := by
  subst hb
  refine ⟨zs[i], ?_, h _ (List.getElem_mem hi)⟩
  rw [cell_new]
  simp [hi]

theorem lt_of_cell {w : World} {a : Addr} {v : Value} (h : w.cell? a = some v) : a.block < w.heap.size := by
  by_cases g : a.block < w.heap.size
  · exact g
  · have e : w.heap[a.block]? = none := by simp; omega
    unfold World.cell? at h
    rw [e] at h
    cases h

/-- A remainder, cut towards nought. -/
theorem tmod_bd (n d : Int) (h : 0 < d) : -d < n.tmod d ∧ n.tmod d < d := by
  have hm : (n.tmod d).natAbs < d.natAbs := by
    rw [Int.natAbs_tmod]; exact Nat.mod_lt _ (by omega)
  omega

/-- The lesser and the greater of two. -/
def min2 (x y : Int) : Int := if y < x then y else x
def max2 (x y : Int) : Int := if x < y then y else x
theorem run_min2 (P : Program) (w : World) (ts : Array TypeId) (t : TypeId) (x y : Int) : (Builtin.min_ ts t #[.int .i64 x, .int .i64 y]).run P w = .ok (.int .i64 (min2 x y)) w := by
  simp [Builtin.min_, Builtin.min2, min2]
theorem run_max2 (P : Program) (w : World) (ts : Array TypeId) (t : TypeId) (x y : Int) : (Builtin.max_ ts t #[.int .i64 x, .int .i64 y]).run P w = .ok (.int .i64 (max2 x y)) w := by
  simp [Builtin.max_, Builtin.max2, max2]

end Go.Proofs.Ytknkgcphamhjlaa
