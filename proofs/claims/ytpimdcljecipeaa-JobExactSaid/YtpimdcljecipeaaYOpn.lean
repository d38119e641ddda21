/-
  Stage 13: a job that came in by value.
-/
import Derived.Test.YtpimdcljecipeaaJIt
import Derived.Deep.SlicePairs
import Derived.Deep.Strs
import Derived.WideShapes
import Derived.ChangeSame
set_option linter.unusedSimpArgs false
set_option linter.unusedVariables false
namespace Go.Proofs.Ytpimdcljecipeaa
open Go.RowKit Go.WideShapes Go.ChangeShapes Go.ChangeShapes

section
variable {H : Type} {enc : TypeId × Value → H} {P : Program} {w : World} {base : Nat} {spare : Nat → Bool} {held : Bool}
theorem trod_struct4 {t : TypeId} {f0 f1 f2 f3 : Field} {fuel : Nat} {cs : List Value} {x : DataW H × List MemPlace} (ht : P.underlying t = some (.struct #[f0, f1, f2, f3])) (h : DataW.trod enc P w base spare held fuel t cs = some x) :
    ∃ y0 y1 y2 y3 n, DataW.trod enc P w base spare held n f0.type ((cs.drop f0.offset).take (P.cellsOf f0.type)) = some y0 ∧ DataW.trod enc P w base spare held n f1.type ((cs.drop f1.offset).take (P.cellsOf f1.type)) = some y1 ∧
      DataW.trod enc P w base spare held n f2.type ((cs.drop f2.offset).take (P.cellsOf f2.type)) = some y2 ∧ DataW.trod enc P w base spare held n f3.type ((cs.drop f3.offset).take (P.cellsOf f3.type)) = some y3 := by
  obtain ⟨xs, n, _, rfl, hl, hlen, hf⟩ := DataW.trod_struct ht h
  match xs, hlen with
  | [y0, y1, y2, y3], _ => exact ⟨y0, y1, y2, y3, n, by simpa using hf 0 f0 rfl, by simpa using hf 1 f1 rfl, by simpa using hf 2 f2 rfl, by simpa using hf 3 f3 rfl⟩
/-- A slice of items, as the reader reads it. -/
theorem open_items {t e : TypeId} {f0 f1 f2 f3 : Field} {fuel : Nat} {A : Option Addr} {len cap : Nat} {x : DataW H × List MemPlace}
    (ht : P.underlying t = some (.slice e)) (he : P.underlying e = some (.struct #[f0, f1, f2, f3]))
    (ce : P.cellsOf e = 4) (o0 : f0.offset = 0) (o1 : f1.offset = 1) (o2 : f2.offset = 2) (o3 : f3.offset = 3) (u0 : P.underlying f0.type = some (.int .i64)) (u1 : P.underlying f1.type = some (.int .i64)) (u2 : P.underlying f2.type = some (.int .i64)) (u3 : P.underlying f3.type = some (.int .i64))
    (c0 : P.cellsOf f0.type = 1) (c1 : P.cellsOf f1.type = 1) (c2 : P.cellsOf f2.type = 1) (c3 : P.cellsOf f3.type = 1)
    (h : DataW.trod enc P w base spare held fuel t [.slice A len cap] = some x) : ∃ l : List It, len = l.length ∧ IRow w A l := by
  rcases Deep.open_slice ht h with ⟨h0, _⟩ | ⟨a, len', cap', m, n, D, Pl, h0, hb, hl, hm, hmm, _, hx⟩
  · injection h0 with h0
    injection h0 with e1 e2 e3
    subst e1; subst e2; subst e3
    exact ⟨[], rfl, IRow.nil⟩
  · injection h0 with h0
    injection h0 with e1 e2 e3
    subst e1; subst e2; subst e3
    have hlm : len ≤ m := by rw [hmm]; split <;> omega
    have each : ∀ i, i < len → ∃ p : It, w.cell? (a.add (i * 4)) = some (.int .i64 p.1) ∧ w.cell? (a.add (i * 4 + 1)) = some (.int .i64 p.2.1) ∧ w.cell? (a.add (i * 4 + 2)) = some (.int .i64 p.2.2.1) ∧ w.cell? (a.add (i * 4 + 3)) = some (.int .i64 p.2.2.2) := by
      intro i hi
      obtain ⟨cs', g1, g2⟩ := hx i (by omega)
      rw [ce] at g1
      obtain ⟨_, hlen, hcell⟩ := World.cells?_some g1
      obtain ⟨y0, y1, y2, y3, n', t0, t1, t2, t3⟩ := trod_struct4 he g2
      match cs', hlen with
      | [v0, v1, v2, v3], _ =>
        simp [o0, o1, o2, o3, c0, c1, c2, c3] at t0 t1 t2 t3
        obtain ⟨a0, e0, _, _⟩ := DataW.trod_int u0 t0
        obtain ⟨a1, e1, _, _⟩ := DataW.trod_int u1 t1
        obtain ⟨a2, e2, _, _⟩ := DataW.trod_int u2 t2
        obtain ⟨a3, e3, _, _⟩ := DataW.trod_int u3 t3
        simp at e0 e1 e2 e3
        subst e0; subst e1; subst e2; subst e3
        have k0 := hcell 0 (by omega)
        have k1 := hcell 1 (by omega)
        have k2 := hcell 2 (by omega)
        have k3 := hcell 3 (by omega)
        rw [Deep.add_add] at k0 k1 k2 k3
        exact ⟨(a0, a1, a2, a3), by simpa using k0, by simpa using k1, by simpa using k2, by simpa using k3⟩
    obtain ⟨f, hf⟩ := Deep.choose_lt each
    refine ⟨(List.range len).map f, by simp, ⟨?_, by simp; omega⟩⟩
    intro j hj
    rw [flatI_len] at hj
    simp only [List.length_map, List.length_range] at hj
    have hi : j / 4 < len := by omega
    have hg : ((List.range len).map f).getD (j / 4) it0 = f (j / 4) := by
      rw [List.getD_eq_getElem?_getD, List.getElem?_map, List.getElem?_range hi]; rfl
    obtain ⟨k0, k1, k2, k3⟩ := hf (j / 4) hi
    obtain ⟨e0, e1, e2, e3⟩ := flatI_at ((List.range len).map f) (j / 4)
    rw [hg] at e0 e1 e2 e3
    have hblk : a.block < w.heap.size := by have := lt_of_cell k0; rwa [add_block] at this
    refine ⟨a, rfl, hblk, ?_⟩
    rcases (by omega : j = j / 4 * 4 ∨ j = j / 4 * 4 + 1 ∨ j = j / 4 * 4 + 2 ∨ j = j / 4 * 4 + 3) with e | e | e | e
    · rw [e, k0, e0]
    · rw [e, k1, e1]
    · rw [e, k2, e2]
    · rw [e, k3, e3]
/-- A job by value. -/
theorem open_job {r : Reach} {b0 : Nat} {t e : TypeId} {h0 h1 f0 f1 f2 f3 : Field} {v : Value} {d : DataW H} {p : List MemPlace} (ht : P.underlying t = some (.struct #[h0, h1])) (ct : P.cellsOf t = 2) (q0 : h0.offset = 0) (q1 : h1.offset = 1) (hs : P.underlying h0.type = some (.slice e)) (hi : P.underlying h1.type = some (.int .i64)) (d0 : P.cellsOf h0.type = 1) (d1 : P.cellsOf h1.type = 1)
    (he : P.underlying e = some (.struct #[f0, f1, f2, f3]))
    (ce : P.cellsOf e = 4) (o0 : f0.offset = 0) (o1 : f1.offset = 1) (o2 : f2.offset = 2) (o3 : f3.offset = 3) (u0 : P.underlying f0.type = some (.int .i64)) (u1 : P.underlying f1.type = some (.int .i64)) (u2 : P.underlying f2.type = some (.int .i64)) (u3 : P.underlying f3.type = some (.int .i64))
    (c0 : P.cellsOf f0.type = 1) (c1 : P.cellsOf f1.type = 1) (c2 : P.cellsOf f2.type = 1) (c3 : P.cellsOf f3.type = 1)
    (hv : Value.okWide P w r b0 t v) (h : DataW.Trod enc P w base spare held t v d p) : ∃ A len cap l wt, v = .agg #[.slice A len cap, .int .i64 wt] ∧ len = l.length ∧ IRow w A l := by
  obtain ⟨cs, rfl, hsz⟩ := okWide_struct ht hv
  rw [ct] at hsz
  obtain ⟨fuel, h⟩ := h
  obtain ⟨ll⟩ := cs
  match ll, hsz with
  | [v0, v1], _ =>
    obtain ⟨y0, y1, n, _, _, t0, t1⟩ := trod_struct2 ht h
    simp [Value.cells, q0, q1, d0, d1] at t0 t1
    obtain ⟨a1, e1, _, _⟩ := DataW.trod_int hi t1
    simp at e1
    subst e1
    have hsl : ∃ A len cap, v0 = .slice A len cap := by
      rcases Deep.open_slice hs t0 with ⟨h0, _⟩ | ⟨a, len', cap', m, n, D, Pl, h0, _⟩
      · injection h0 with h0
        exact ⟨_, _, _, h0⟩
      · injection h0 with h0
        exact ⟨_, _, _, h0⟩
    obtain ⟨A, len, cap, rfl⟩ := hsl
    obtain ⟨l, h1, h2⟩ := open_items hs he ce o0 o1 o2 o3 u0 u1 u2 u3 c0 c1 c2 c3 t0
    exact ⟨A, len, cap, l, a1, rfl, h1, h2⟩
end
end Go.Proofs.Ytpimdcljecipeaa
