/-
  Stage 17: the walk of PlannerProved.
-/
import Derived.Test.YtimkmieohkefiaaGreatBA5
set_option linter.unusedSimpArgs false
set_option linter.unusedVariables false
namespace Go.Proofs.YtimkmieohkefiaaGreat
open Go.RowKit Go.Lib

/-- Made items and tracks. -/
structure L17 (w wr : World) (IA : Option Addr) (ic L : Nat) (l : List It) (TA : Option Addr) (tc bn : Nat) (b : List Int) : Prop where
  len : L = l.length
  nil : IA = none → L = 0 ∧ ic = 0
  val : validR l 0 = 0
  blen : bn = b.length
  b32 : bn ≤ 32
  irow : IRow wr IA l
  trow : Row .i64 wr wr.heap.size TA b
  trk : trkE b = 0
  bel : Below w.heap.size w wr
theorem L17.below {w wr w' : World} {IA : Option Addr} {ic L : Nat} {l : List It} {TA : Option Addr} {tc bn : Nat} {b : List Int} (h : L17 w wr IA ic L l TA tc bn b) (k : Below wr.heap.size wr w') : L17 w w' IA ic L l TA tc bn b :=
  ⟨h.len, h.nil, h.val, h.blen, h.b32, h.irow.below k, h.trow.below k, h.trk, h.bel.trans (k.mono h.bel.size)⟩
theorem L17.plan {w wr : World} {IA : Option Addr} {ic L : Nat} {l : List It} {TA : Option Addr} {tc bn : Nat} {b : List Int} (h : L17 w wr IA ic L l TA tc bn b) :
    Calls Tryz.prog 13 #[.slice IA L ic, .slice TA bn tc] wr (PlanPost17 l b wr) :=
  pplan_any l IA ic L b TA bn tc h.len h.nil h.blen (by have := h.b32; have := h.blen; unfold maxLen; omega) wr h.irow h.trow
end Go.Proofs.YtimkmieohkefiaaGreat
