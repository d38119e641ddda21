/-
  A struct that a function returns out of a cell of its own.
-/
import Derived.Test.YtpimdcljecipeaaRec
set_option linter.unusedSimpArgs false
set_option linter.unusedVariables false
namespace Go.Proofs.Ytpimdcljecipeaa
open Go.RowKit

theorem loadVar_rec {α : Type} {R : Rec α} {T : TypeId} {d : TypeDesc} (hu : Try.prog.underlying T = some d) (hd : (match d with | .struct _ | .array _ _ => true | _ => false) = true) (hi : (Try.prog.info? T).map (·.size) = some R.m) {w : World} {b : Nat} {x : α} (h : RBlk R w b x) :
    (loadVar T ⟨b, 0, none⟩).run Try.prog w = .ok (.agg (R.cells x).toArray) w := by
  have hl : (loadCells ⟨b, 0, none⟩ (R.cells x).length).run Try.prog w = .ok (R.cells x).toArray w :=
    run_loadCells_list (P := Try.prog) w ⟨b, 0, none⟩ (R.cells x) (fun j v hv => by rw [add_own]; exact h.cs j v hv)
  rw [R.len] at hl
  cases hq : Try.prog.info? T with
  | none => rw [hq] at hi; cases hi
  | some i =>
    have hs : i.size = R.m := by simpa [hq] using hi
    have hagg : (isAgg T).run Try.prog w = .ok true w := by
      unfold isAgg
      rw [Sem.run_bind, run_underlying hu w]
      cases d <;> simp_all
    simp [loadVar, Sem.run_bind, hagg, sizeOf, typeInfo, hq, hs, hl]
theorem results_rec {α : Type} {R : Rec α} {fn : Func} {p : Tmp} {T : TypeId} {d : TypeDesc} (hf : fn.results = #[.cell p T]) (hu : Try.prog.underlying T = some d) (hd : (match d with | .struct _ | .array _ _ => true | _ => false) = true) (hi : (Try.prog.info? T).map (·.size) = some R.m) (tmps : Array Value) (w : World) (b : Nat) (x : α)
    (hp : tmps.getD p undef = .pointer (some ⟨b, 0, none⟩)) (h : RBlk R w b x) : (results fn tmps).run Try.prog w = .ok (.agg (R.cells x).toArray) w := by
  have hp' : tmps[p]?.getD undef = .pointer (some ⟨b, 0, none⟩) := by simpa using hp
  simp [results, hf, hp', asAddr, loadVar_rec hu hd hi h]
end Go.Proofs.Ytpimdcljecipeaa
