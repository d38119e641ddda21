/-
  Stage 8: a row of a table of the call's own grows, and is put back.
-/
import Derived.Test.YtbdiilkdajadcaaDoorRVrf
set_option linter.unusedSimpArgs false
set_option linter.unusedVariables false
namespace Go.Proofs.YtbdiilkdajadcaaDoor
open Go.RowKit

theorem setCell_grown (w : World) (g j : Nat) (u : Value) : w.grownBy (w.setCell ⟨g, j, none⟩ u) (some g) :=
  ⟨rfl, rfl, rfl, by rw [World.size_setCell]; exact Nat.le_refl _, fun k hk hn => Below.heap_setCell _ _ _ _ (fun e => hn (by first | exact congrArg some e | exact congrArg some e.symm))⟩
theorem Tab.app {w w8 : World} {base g L M R : Nat} {rb rc : Nat → Nat} {U : Nat → Nat → Int} {v8 : Value} {O1 : Obj} (h : Tab IR 3 w base g L M L rb rc U) (hR : R < L)
    (A : AppI base (.slice (some ⟨rb R, 0, none⟩) M (rc R)) (rowL (U R) M) 0 (w.alloc O1) v8 w8) (hL : L ≤ 1000) (hT : ∀ x y, x < L → y < M → -1000000 ≤ U x y ∧ U x y ≤ 1000000) :
    w8.cell? ⟨g, R, none⟩ = some (.slice (some ⟨rb R, 0, none⟩) M (rc R)) ∧ w8.frozen? ⟨g, R, none⟩ = false ∧ Tbl (w8.setCell ⟨g, R, none⟩ v8) (some ⟨g, 0, none⟩) L ((tabL U L M).set R (rowL (U R) M ++ [0])) := by
  obtain ⟨O8, G, gg, cc, rfl, hlt, hat⟩ := A
  have hne := h.ne R hR
  have hgl := h.glt
  have blk : w8.heap[g]? = w.heap[g]? := (G.block g (by rw [World.size_alloc]; omega) (fun e => hne (by simpa [Value.ownBlock] using e.symm))).trans (Below.heap_alloc _ _ _ hgl)
  have hcell : ∀ i, w8.cell? ⟨g, i, none⟩ = w.cell? ⟨g, i, none⟩ := fun i => World.cell?_of_block (w := w) blk
  have c8 := (hcell R).trans (h.out R hR)
  have hgg : gg ≠ g := by
    rcases hat with hat | hat
    · have : rb R = gg := by simpa [Value.ownBlock] using hat
      omega
    · rw [World.size_alloc] at hat; omega
  have gs := setCell_grown w8 g R (.slice (some ⟨gg, 0, none⟩) ((rowL (U R) M).length + 1) cc)
  refine ⟨c8, (World.frozen?_of_block (w := w) blk).trans (h.fz R), Tab.tblApp (cg := 0) (rb := rb) (rc := rc) (base := base) (fun i hi hiR => ⟨?_, ?_⟩) ?_ hR (World.cell?_setCell_same _ _ _ c8) (O8.kept gs (Or.inr (fun e => hgg (by simpa [Value.ownBlock] using e)))) hL hT⟩
  · exact (World.cell?_setCell_other _ _ _ _ (fun e => hiR (by have := congrArg Addr.off e; exact (by simpa using this : R = i).symm))).trans ((hcell i).trans (h.out i hi))
  · refine (((rown_own (h.row i hi)).alloc O1).kept G (Or.inr (fun e => hiR (h.inj i R hi hR (by simpa [Value.ownBlock] using e))))).kept gs (Or.inr (fun e => h.ne i hi (by simpa [Value.ownBlock] using e)))
  · rw [World.size_setCell]
    exact Nat.lt_of_lt_of_le hgl (Nat.le_trans (by simp) G.size)
end Go.Proofs.YtbdiilkdajadcaaDoor
