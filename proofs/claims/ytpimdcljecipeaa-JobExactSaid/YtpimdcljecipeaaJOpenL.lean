/-
  Stage 11: a list of lists of ints that came in.
-/
import Derived.Test.YtpimdcljecipeaaJSet
import Derived.Deep.Slices
import Derived.ChangeOld
set_option linter.unusedSimpArgs false
set_option linter.unusedVariables false
namespace Go.Proofs.Ytpimdcljecipeaa
open Go.RowKit Go.ChangeShapes Go.WideShapes Go.ChangeAt

section
variable {H : Type} {enc : TypeId × Value → H} {P : Program} {w : World} {base : Nat} {spare : Nat → Bool} {held : Bool}
theorem open_lists {t e u : TypeId} {fuel : Nat} {A : Option Addr} {len cap : Nat} {x : DataW H × List MemPlace} (ht : P.underlying t = some (.slice e)) (he : P.underlying e = some (.slice u)) (hu : P.underlying u = some (.int .i64)) (ce : P.cellsOf e = 1) (cu : P.cellsOf u = 1) (hsp : ∀ b, spare b = true)
    (h : DataW.trod enc P w base spare held fuel t [.slice A len cap] = some x) : ∃ ps : List (List Int), len = ps.length ∧ PP w A ps ∧ ps.length ≤ maxLen := by
  rcases Deep.open_slice ht h with ⟨h0, _⟩ | ⟨a, len', cap', m, n, D, Pl, h0, hb, hl, hm, hmm, hd, hx⟩
  · injection h0 with h0
    injection h0 with e1 e2 e3
    subst e1; subst e2; subst e3
    exact ⟨[], rfl, PP.nil, by decide⟩
  · injection h0 with h0
    injection h0 with e1 e2 e3
    subst e1; subst e2; subst e3
    have hlm : len ≤ m := by rw [hmm]; split <;> omega
    have each : ∀ i, i < len → ∃ p : List Int, a.block < w.heap.size ∧ ∃ a' c, w.cell? (a.add i) = some (.slice a' p.length c) ∧ Row .i64 w w.heap.size a' p ∧ p.length ≤ maxLen := by
      intro i hi
      obtain ⟨cs', g1, g2⟩ := hx i (by omega)
      rw [ce] at g1
      obtain ⟨_, hlen, hcell⟩ := World.cells?_some g1
      have hc0 := hcell 0 (by omega)
      rw [Nat.mul_one] at hc0
      refine (show ∃ a0 l0 c0 zs, cs' = [.slice a0 l0 c0] ∧ IsRow .i64 w a0 l0 c0 zs ∧ l0 ≤ maxLen from ?_).elim fun a0 h => ?_
      · rcases open_ints he hu cu g2 with ⟨hcs, _⟩ | ⟨x, l, c, zs, hcs, _, hl, hm, hz, _, hcell, hwz⟩
        · exact ⟨none, 0, 0, [], hcs, .inl ⟨rfl, rfl, rfl, rfl⟩, by decide⟩
        · exact ⟨_, _, _, zs, hcs, .inr ⟨_, rfl, hl, hm, by simpa [hsp] using hz, hcell, hwz⟩, Nat.le_trans hl hm⟩
      · obtain ⟨l0, c0, zs, rfl, hr, hl0⟩ := h
        obtain ⟨p, rfl, r, mk, wf⟩ := hr.row
        have hc0 : w.cell? ((a.add i).add 0) = some (.slice a0 p.length c0) := hc0
        have hblk : a.block < w.heap.size := by have := lt_of_cell hc0; simpa [add_block] using this
        refine ⟨p, hblk, a0, c0, ?_, r, hl0⟩
        have : (a.add i).add 0 = a.add i := by simp [Addr.add]
        rw [this] at hc0
        exact hc0
    obtain ⟨f, hf⟩ := Deep.choose_lt each
    have hget : ∀ i, i < len → ((List.range len).map f)[i]? = some (f i) := fun i hi => by
      rw [List.getElem?_map, List.getElem?_range hi]; rfl
    refine ⟨(List.range len).map f, by simp, fun k p hk => ?_, by simp; omega⟩
    have hi : k < len := by have := (List.getElem?_eq_some_iff.1 hk).1; simpa using this
    rw [hget k hi] at hk
    obtain rfl := Option.some.inj hk
    obtain ⟨hblk, r⟩ := hf k hi
    exact ⟨a, rfl, hblk, r⟩
end
end Go.Proofs.Ytpimdcljecipeaa
