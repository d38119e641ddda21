/-
  Stage 11: a row just laid; the job of the example; a job as a result.
-/
import Derived.Test.YtpimdcljecipeaaJBox
import Derived.Test.YtpimdcljecipeaaSame
import Derived.Test.YtpimdcljecipeaaRecR
set_option linter.unusedSimpArgs false
set_option linter.unusedVariables false
namespace Go.Proofs.Ytpimdcljecipeaa
open Go.RowKit Go.Lib

theorem row_new {k : IntKind} {W : World} {T : TypeId} (ys : List Int) : Row k (W.alloc (.cells (ys.map (Value.int k)).toArray T)) (W.alloc (.cells (ys.map (Value.int k)).toArray T)).heap.size (some ⟨W.heap.size, 0, none⟩) ys := fun j hj =>
  ⟨_, rfl, by simp, by rw [add_own, cell_new]; simp [hj]⟩
theorem IRow.new {W : World} {T : TypeId} (l : List It) (h : l.length ≤ maxLen) : IRow (W.alloc (.cells ((flatI l).map (Value.int .i64)).toArray T)) (some ⟨W.heap.size, 0, none⟩) l := ⟨row_new (flatI l), h⟩
abbrev itm4 : List It := [(0, 1, 0, 80), (0, 3, 0, 80), (0, 0, 0, 80), (0, 2, 0, 80)]
theorem itm4_valid : validR itm4 12 = 0 := by decide
theorem itm4_ok : BlkOk itm4 := (valid_ok itm4_valid).2.2
/-- A job's descriptor: its slice, its length and capacity, its weight. -/
abbrev JD := Option Addr × Nat × Nat × Int
def JR : Rec JD := ⟨2, by decide, fun d => [.slice d.1 d.2.1 d.2.2.1, .int .i64 d.2.2.2], fun _ => rfl, fun d u hu => by
  simp only [List.mem_cons, List.not_mem_nil, or_false] at hu
  rcases hu with h | h <;> subst h <;> rfl⟩
theorem infoJ : (Try.prog.info? 25).map (·.size) = some JR.m := by kernel_rfl
theorem jblk_of {w : World} {b n c : Nat} {A : Option Addr} {wt : Int} (h0 : w.cell? ⟨b, 0, none⟩ = some (.slice A n c)) (h1 : w.cell? ⟨b, 1, none⟩ = some (.int .i64 wt)) : RBlk JR w b (A, n, c, wt) := by
  refine ⟨fun j u hj => ?_, lt_of_cell h0⟩
  match j with
  | 0 => injection hj with hj; rw [← hj]; exact h0
  | 1 => injection hj with hj; rw [← hj]; exact h1
  | j + 2 => cases hj
theorem results_job {fn : Func} {p : Tmp} (hf : fn.results = #[.cell p 25]) (tmps : Array Value) (w : World) (b n c : Nat) (A : Option Addr) (wt : Int) (hp : tmps.getD p undef = .pointer (some ⟨b, 0, none⟩)) (h : JBox w b A n c wt) :
    (results fn tmps).run Try.prog w = .ok (jv A n c wt) w :=
  results_rec (R := JR) hf Try.underlying25 rfl infoJ tmps w b (A, n, c, wt) hp (jblk_of h.c0 h.c1)
end Go.Proofs.Ytpimdcljecipeaa
