/-
  Lists of structs whose fields are all integers: a slice of n elements of m cells each, read as one flat row of numbers; one that the call made and owns.
-/
import Derived.Test.YtpimdcljecipeaaNum
set_option linter.unusedSimpArgs false
set_option linter.unusedVariables false
namespace Go.Proofs.Ytpimdcljecipeaa
open Go.RowKit

/-- The slice v is nil, or lies in a block of the call's own from base on; its n elements of m cells read as the numbers zs. -/
def Flat (e : TypeId) (m : Nat) (w : World) (base : Nat) (v : Value) (n : Nat) (zs : List Int) : Prop := w.ownsRow base e m v n (zs.map (Value.int .i64))
theorem Flat.len {e : TypeId} {m : Nat} {w : World} {base : Nat} {v : Value} {n : Nat} {zs : List Int} (h : Flat e m w base v n zs) : zs.length = n * m := by
  have := h.1; rwa [List.length_map] at this
theorem Flat.nil {e : TypeId} {m : Nat} {w : World} {base : Nat} : Flat e m w base (.slice none 0 0) 0 [] := ⟨by simp, Or.inl ⟨rfl, rfl⟩⟩
theorem Flat.drewN {e : TypeId} {m : Nat} {w : World} {base : Nat} {v : Value} {n : Nat} {zs : List Int} (h : Flat e m w base v n zs) (k : Nat) : Flat e m (w.drewN k) base v n zs := h
theorem Flat.alloc {e : TypeId} {m : Nat} {w : World} {base : Nat} {v : Value} {n : Nat} {zs : List Int} (h : Flat e m w base v n zs) (o : Obj) : Flat e m (w.alloc o) base v n zs := World.ownsRow.alloc h o
theorem Flat.base {e : TypeId} {m : Nat} {w : World} {base base' : Nat} {v : Value} {n : Nat} {zs : List Int} (h : Flat e m w base v n zs) (hb : base' ≤ base) : Flat e m w base' v n zs := by
  refine ⟨h.1, ?_⟩
  rcases h.2 with g | ⟨g, cap, cur, e1, e2, e3⟩
  · exact Or.inl g
  · exact Or.inr ⟨g, cap, cur, e1, Nat.le_trans hb e2, e3⟩
theorem Flat.below {e : TypeId} {m : Nat} {w w' : World} {base : Nat} {v : Value} {n : Nat} {zs : List Int} (h : Flat e m w base v n zs) (b : Below w.heap.size w w') : Flat e m w' base v n zs := by
  refine ⟨h.1, ?_⟩
  rcases h.2 with g | ⟨g, cap, cur, e1, e2, e3, e4⟩
  · exact Or.inl g
  · exact Or.inr ⟨g, cap, cur, e1, e2, (b.block g (Array.getElem?_eq_some_iff.1 e3).1).trans e3, e4⟩
theorem Flat.kept {e : TypeId} {m : Nat} {w w' : World} {base : Nat} {v : Value} {n : Nat} {zs : List Int} {row : Option Nat} (h : Flat e m w base v n zs) (hg : w.grownBy w' row) (hne : v.ownBlock = none ∨ v.ownBlock ≠ row) : Flat e m w' base v n zs := World.ownsRow.kept h hg hne
/-- What it looks like. -/
theorem Flat.slice {e : TypeId} {m : Nat} {w : World} {base : Nat} {v : Value} {n : Nat} {zs : List Int} (h : Flat e m w base v n zs) :
    ∃ A c, v = .slice A n c ∧ Row .i64 w w.heap.size A zs ∧ n ≤ c ∧ n ≤ maxLen ∧ (0 < n → ∃ g, A = some ⟨g, 0, none⟩ ∧ base ≤ g ∧ g < w.heap.size) := by
  have hl := h.len
  rcases h.2 with ⟨rfl, hn⟩ | ⟨g, cap, cur, rfl, e2, e3, e4, e5, e6, e7⟩
  · subst hn
    rw [Nat.zero_mul] at hl
    have : zs = [] := List.length_eq_zero_iff.1 hl
    subst this
    exact ⟨none, 0, rfl, Row.nil, Nat.le_refl _, by decide, fun h => absurd h (by simp)⟩
  · have hg : g < w.heap.size := (Array.getElem?_eq_some_iff.1 e3).1
    refine ⟨_, cap, rfl, fun j hj => ⟨_, rfl, hg, ?_⟩, e4, by omega, fun _ => ⟨g, rfl, e2, hg⟩⟩
    rw [add_own]
    have := World.ownsRow.cellAt h j (by rw [← hl]; exact hj)
    rw [this]
    simp [hj]
theorem Flat.block {e : TypeId} {m : Nat} {w : World} {base : Nat} {v : Value} {n : Nat} {zs : List Int} (h : Flat e m w base v n zs) {g : Nat} (hg : v.ownBlock = some g) : base ≤ g ∧ g < w.heap.size := by
  rcases h.2 with ⟨rfl, _⟩ | ⟨g', cap, cur, rfl, e2, e3, _⟩
  · simp [Value.ownBlock] at hg
  · simp [Value.ownBlock] at hg
    subst hg
    exact ⟨e2, (Array.getElem?_eq_some_iff.1 e3).1⟩
theorem Flat.app {e : TypeId} {m : Nat} {w : World} {base n k : Nat} {v : Value} {zs ys : List Int} (h : w.ownsRow base e m v (n + k) (zs.map (Value.int .i64) ++ ys.map (Value.int .i64))) : Flat e m w base v (n + k) (zs ++ ys) := by
  unfold Flat; rwa [List.map_append]
theorem Flat.store {e : TypeId} {m : Nat} {w : World} {base g n cap : Nat} {zs : List Int} (h : Flat e m w base (.slice (some ⟨g, 0, none⟩) n cap) n zs) (j : Nat) (x : Int) :
    Flat e m (w.setCell ⟨g, j, none⟩ (.int .i64 x)) base (.slice (some ⟨g, 0, none⟩) n cap) n (zs.set j x) := by
  have := (World.ownsRow.stored h j (.int .i64 x)).1
  unfold Flat
  rwa [List.map_set]
theorem Flat.frozen {e : TypeId} {m : Nat} {w : World} {base g n cap : Nat} {zs : List Int} (h : Flat e m w base (.slice (some ⟨g, 0, none⟩) n cap) n zs) (j : Nat) : w.frozen? ⟨g, j, none⟩ = false := World.ownsRow.frozenAt h j
theorem Flat.cell {e : TypeId} {m : Nat} {w : World} {base g n cap : Nat} {zs : List Int} (h : Flat e m w base (.slice (some ⟨g, 0, none⟩) n cap) n zs) (j : Nat) (hj : j < zs.length) : w.cell? ⟨g, j, none⟩ = some (.int .i64 (zs.getD j 0)) := by
  rw [World.ownsRow.cellAt h j (by rw [← h.len]; exact hj)]
  simp [hj]
end Go.Proofs.Ytpimdcljecipeaa
