/-
  Stage 8: the rest of a list of numbers.
-/
import Derived.Test.YtbdiilkdajadcaaDoorRec
import Derived.Laws.Slices
set_option linter.unusedSimpArgs false
set_option linter.unusedVariables false
namespace Go.Proofs.YtbdiilkdajadcaaDoor
open Go.RowKit

theorem getD_drop (l : List Int) (n j : Nat) : (l.drop n).getD j 0 = l.getD (n + j) 0 := by
  rw [List.getD_eq_getElem?_getD, List.getElem?_drop, List.getD_eq_getElem?_getD]
theorem Row.cutI {k : IntKind} {w : World} {B : Nat} {A : Option Addr} {zs : List Int} (h : Row k w B A zs) (n c : Nat) (hc : zs.length ≤ c) : Row k w B (if c = n then A else A.map (·.add (n * 1))) (zs.drop n) := by
  by_cases g : c = n
  · rw [if_pos g, List.drop_eq_nil_of_le (by omega)]
    exact Row.nil
  · rw [if_neg g]
    intro j hj
    rw [List.length_drop] at hj
    obtain ⟨ad, rfl, hb, hv⟩ := h (n + j) (by omega)
    exact ⟨_, rfl, by rw [add_block]; exact hb, by rw [add_add, Nat.mul_one, getD_drop]; exact hv⟩
theorem elemInt : Tryd.prog.elem 22 = 3 := by kernel_rfl
theorem sizeOf_of {T : TypeId} {n : Nat} (hi : (Tryd.prog.info? T).map (·.size) = some n) (W : World) : (sizeOf T).run Tryd.prog W = .ok n W := by
  cases hq : Tryd.prog.info? T with
  | none => rw [hq] at hi; cases hi
  | some i =>
    rw [hq] at hi
    have hs : i.size = n := by simpa using hi
    simp [sizeOf, typeInfo, hq, hs]
theorem sizeInt : (Tryd.prog.info? 3).map (·.size) = some 1 := by kernel_rfl
theorem slice_ints (A : Option Addr) (L c m : Nat) (W : World) (hm : m ≤ L) (hc : L ≤ c) : (Instr.slice 22 (.slice A L c) (some (.int .i64 (m : Int))) none none).run Tryd.prog W = .ok (.slice (if c = m then A else A.map (·.add (m * 1))) (L - m) (c - m)) W := by
  rw [run_slice_l W 22 A L c (by rw [elemInt]; exact Tryd.underlying22) .i64 (m : Int) (by omega) (by omega), elemInt, sizeOf_of sizeInt W]
  simp [Result.andThen, sliced]
end Go.Proofs.YtbdiilkdajadcaaDoor
