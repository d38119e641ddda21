/-
  Stage 8: what the rows' condition on the variable gives the walks; the door's own heap meets it.
-/
import Derived.Test.YtbdiilkdajadcaaDoorRIsp
import Derived.Test.YtbdiilkdajadcaaDoorCards
import Derived.ProofKit
import Derived.LaidMore
import Derived.OpenShut
import Derived.Stop.Joined
import Derived.Deep.Strs
set_option linter.unusedSimpArgs false
set_option linter.unusedVariables false
namespace Go.Proofs.YtbdiilkdajadcaaDoor
open Go.ChangeShapes Go.WideShapes Go.ChangeAt Go.RowKit

def laidL : List (String × DataW Unit) := [("humpyard/reconcile.kinds", Rows.laid_humpyard_reconcile_kinds)]
theorem gKnd : Tryd.prog.globalNamed "humpyard/reconcile.kinds" = some 0 := by kernel_rfl
theorem door_met (os : Os) (args : Array Value) : laidMetH Tryd.prog laidL ((World.doorLaid Tryd.prog 400 os).forCall (fun _ _ => 0) ⟨#[], args, []⟩).memory :=
  laidMetH_of_parts3 (fuel := 8) (laidMet_of_run' 8 (by kernel_rfl) (by kernel_rfl)) (by kernel_rfl) (by kernel_rfl)
theorem tKnd : (Tryd.prog.globals[0]?).map (·.type) = some 55 := by kernel_rfl
theorem cKnd : Tryd.prog.cellsOf 54 = 3 := by kernel_rfl
theorem cIntR : Tryd.prog.cellsOf 3 = 1 := by kernel_rfl
theorem laid_atR (xs : List (DataW Unit × List MemPlace)) (h : (DataW.agg (xs.map (·.1)) : DataW Unit) = Rows.laid_humpyard_reconcile_kinds) (k : Nat) (hk : k < 5) :
    ∃ m, xs[k]? = some (.agg [.lit (.int .i64 (kdL.getD (k * 3) 0)), .lit (.int .i64 (kdL.getD (k * 3 + 1) 0)), .lit (.int .i64 (kdL.getD (k * 3 + 2) 0))], m) := by
  unfold Rows.laid_humpyard_reconcile_kinds at h
  simp only [DataW.agg.injEq] at h
  have e := congrArg (fun l => l[k]?) h
  simp only [List.getElem?_map] at e
  have h' : k = 0 ∨ k = 1 ∨ k = 2 ∨ k = 3 ∨ k = 4 := by omega
  rcases h' with rfl | rfl | rfl | rfl | rfl
  all_goals
    simp only [List.getElem?_cons_succ, List.getElem?_cons_zero, Option.map_eq_some_iff] at e
    obtain ⟨⟨a, m⟩, e1, e2⟩ := e
    exact ⟨m, by rw [e1]; simp only [Option.some.injEq, Prod.mk.injEq, and_true]; exact e2⟩
theorem int_of {enc : TypeId × Value → Unit} {W : World} {base : Nat} {spare : Nat → Bool} {held : Bool} {fuel : Nat} {cs : List Value} {z : Int} {m : List MemPlace} (h : DataW.trod enc Tryd.prog W base spare held fuel 3 cs = some (.lit (.int .i64 z), m)) : cs = [.int .i64 z] := by
  obtain ⟨y, e1, e2, _⟩ := DataW.trod_int Tryd.underlying3 h
  simp only [Prod.mk.injEq, DataW.lit.injEq, Lit.int.injEq, true_and] at e2
  rw [e1, e2.1]
theorem kind_of {enc : TypeId × Value → Unit} {W : World} {base : Nat} {spare : Nat → Bool} {held : Bool} {fuel : Nat} {cs : List Value} {z0 z1 z2 : Int} {m : List MemPlace} (h : DataW.trod enc Tryd.prog W base spare held fuel 54 cs = some (.agg [.lit (.int .i64 z0), .lit (.int .i64 z1), .lit (.int .i64 z2)], m)) : cs = [.int .i64 z0, .int .i64 z1, .int .i64 z2] := by
  obtain ⟨y0, y1, y2, n, e, hl, h0, h1, h2⟩ := Deep.trod_struct3 Tryd.underlying54 h
  rw [cKnd] at hl
  simp only [Prod.mk.injEq, DataW.agg.injEq, List.cons.injEq, and_true] at e
  obtain ⟨⟨a0, a1, a2⟩, _⟩ := e
  obtain ⟨y0, n0⟩ := y0
  obtain ⟨y1, n1⟩ := y1
  obtain ⟨y2, n2⟩ := y2
  simp only at a0 a1 a2
  subst a0; subst a1; subst a2
  match cs, hl with
  | [v0, v1, v2], _ =>
    simp only [cIntR] at h0 h1 h2
    have k0 := int_of h0
    have k1 := int_of h1
    have k2 := int_of h2
    simp at k0 k1 k2
    rw [k0, k1, k2]
/-- The variable's cells. -/
theorem of_laid {W : World} (h : laidMetH Tryd.prog laidL W) : Knd W := by
  rw [MakeChecks.laidMetH_plain _ _ _ (by kernel_rfl)] at h
  obtain ⟨ps, ⟨g0, t0, cs0, f0, p0, q0, hg0, ht0, hv0, hd0, _, _⟩, _, _⟩ := h
  obtain rfl := Option.some.inj (gKnd.symm.trans hg0)
  obtain rfl := Option.some.inj (tKnd.symm.trans ht0)
  obtain ⟨xs, m1, rfl, hx1, hlen, hn, hel⟩ := DataW.trod_array Tryd.underlying55 hd0
  simp only [Prod.mk.injEq] at hx1
  refine ⟨fun j hj => ?_⟩
  obtain ⟨k, r, rfl, hk, hr⟩ : ∃ k r, j = k * 3 + r ∧ k < 5 ∧ r < 3 := ⟨j / 3, j % 3, by omega, by omega, by omega⟩
  obtain ⟨m, hm⟩ := laid_atR xs hx1.1.symm k hk
  have hk2 := hel k hk
  rw [hm, cKnd] at hk2
  have hc := kind_of hk2
  have := World.var?_cell hg0 hv0 (k * 3 + r)
  rw [this]
  have e3 := congrArg (fun l => l[r]?) hc
  simp only [List.getElem?_take_of_lt hr, List.getElem?_drop] at e3
  rcases (by omega : r = 0 ∨ r = 1 ∨ r = 2) with rfl | rfl | rfl
  · simpa using e3
  · simpa using e3
  · simpa using e3
end Go.Proofs.YtbdiilkdajadcaaDoor
