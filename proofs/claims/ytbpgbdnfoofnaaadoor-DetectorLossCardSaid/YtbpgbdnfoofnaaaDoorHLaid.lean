/-
  Stage 3: what the rows' condition on the variable gives the walks; the door's own heap meets it.
-/
import Derived.Test.YtbpgbdnfoofnaaaDoorHCalls
import Derived.ProofKit
import Derived.LaidMore
import Derived.OpenShut
import Derived.Stop.Joined
set_option linter.unusedSimpArgs false
set_option linter.unusedVariables false
namespace Go.Proofs.YtbpgbdnfoofnaaaDoor
open Go.ChangeShapes Go.WideShapes Go.ChangeAt Go.RowKit

def laidL : List (String × DataW Unit) := [("humpyard/hamming.dataBits", Rows.laid_humpyard_hamming_dataBits)]
theorem gDat : Tryd.prog.globalNamed "humpyard/hamming.dataBits" = some 0 := by kernel_rfl
theorem tDat : (Tryd.prog.globals[0]?).map (·.type) = some 82 := by kernel_rfl
theorem cInt : Tryd.prog.cellsOf 3 = 1 := by kernel_rfl

theorem door_met (os : Os) (args : Array Value) : laidMetH Tryd.prog laidL ((World.doorLaid Tryd.prog 400 os).forCall (fun _ _ => 0) ⟨#[], args, []⟩).memory :=
  laidMetH_of_parts3 (fuel := 8) (laidMet_of_run' 8 (by kernel_rfl) (by kernel_rfl)) (by kernel_rfl) (by kernel_rfl)

theorem laid_at (xs : List (DataW Unit × List MemPlace)) (h : (DataW.agg (xs.map (·.1)) : DataW Unit) = Rows.laid_humpyard_hamming_dataBits) (k : Nat) (hk : k < 11) :
    ∃ m, xs[k]? = some (.lit (.int .i64 (pl k)), m) := by
  unfold Rows.laid_humpyard_hamming_dataBits at h
  simp only [DataW.agg.injEq] at h
  have e := congrArg (fun l => l[k]?) h
  simp only [List.getElem?_map] at e
  have h' : k = 0 ∨ k = 1 ∨ k = 2 ∨ k = 3 ∨ k = 4 ∨ k = 5 ∨ k = 6 ∨ k = 7 ∨ k = 8 ∨ k = 9 ∨ k = 10 := by omega
  rcases h' with rfl | rfl | rfl | rfl | rfl | rfl | rfl | rfl | rfl | rfl | rfl
  all_goals
    simp only [List.getElem?_cons_succ, List.getElem?_cons_zero, Option.map_eq_some_iff] at e
    obtain ⟨⟨a, m⟩, e1, e2⟩ := e
    exact ⟨m, by rw [e1]; simp only [Option.some.injEq, Prod.mk.injEq, and_true]; exact e2⟩

/-- The variable's cells. -/
theorem of_laid {W : World} (h : laidMetH Tryd.prog laidL W) : Dat W := by
  rw [MakeChecks.laidMetH_plain _ _ _ (by kernel_rfl)] at h
  obtain ⟨ps, ⟨g0, t0, cs0, f0, p0, q0, hg0, ht0, hv0, hd0, _, _⟩, _, _⟩ := h
  obtain rfl := Option.some.inj (gDat.symm.trans hg0)
  obtain rfl := Option.some.inj (tDat.symm.trans ht0)
  obtain ⟨xs, m1, rfl, hx1, hlen, hn, hel⟩ := DataW.trod_array Tryd.underlying82 hd0
  simp only [Prod.mk.injEq] at hx1
  refine ⟨fun k hk => ?_⟩
  obtain ⟨m, hm⟩ := laid_at xs hx1.1.symm k hk
  have hk2 := hel k hk
  rw [hm, cInt] at hk2
  obtain ⟨z, e1, e2, _⟩ := DataW.trod_int Tryd.underlying3 hk2
  simp only [Prod.mk.injEq, DataW.lit.injEq] at e2
  have hz : z = (pl k : Int) := by simpa using e2.1.symm
  subst hz
  have := World.var?_cell hg0 hv0 k
  rw [this]
  have e3 := congrArg (fun l => l[0]?) e1
  simp at e3
  simpa using e3
end Go.Proofs.YtbpgbdnfoofnaaaDoor
