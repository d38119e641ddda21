/-
  Lists of numbers: a slice that reads as one, wherever it came from; one that the call made and owns.
-/
import Derived.Test.YtknkgcphamhjlaaBase
import Derived.Laws.OwnMore
import Derived.Deep.AppendLies
set_option linter.unusedSimpArgs false
set_option linter.unusedVariables false
namespace Go.Proofs.Ytknkgcphamhjlaa
open Go.RowKit

/-- The slice from A on reads as the numbers zs, and lies below block B. -/
def Row (k : IntKind) (w : World) (B : Nat) (A : Option Addr) (zs : List Int) : Prop :=
  ∀ j, j < zs.length → ∃ ad : Addr, A = some ad ∧ ad.block < B ∧ w.cell? (ad.add j) = some (.int k (zs.getD j 0))
theorem add_block (a : Addr) (n : Nat) : (a.add n).block = a.block := by unfold Addr.add; split <;> rfl
theorem add_own (g j : Nat) : (⟨g, 0, none⟩ : Addr).add j = ⟨g, j, none⟩ := by unfold Addr.add; split <;> simp_all
theorem Row.keep {k : IntKind} {w w' : World} {B B' : Nat} {A : Option Addr} {zs : List Int} (h : Row k w B A zs) (hc : ∀ p : Addr, p.block < B → w'.cell? p = w.cell? p) (hB : B ≤ B') : Row k w' B' A zs := fun j hj => by
  obtain ⟨ad, e, hb, hv⟩ := h j hj
  exact ⟨ad, e, Nat.lt_of_lt_of_le hb hB, (hc _ (by rw [add_block]; exact hb)).trans hv⟩
theorem Row.below {k : IntKind} {w w' : World} {A : Option Addr} {zs : List Int} (h : Row k w w.heap.size A zs) (b : Below w.heap.size w w') : Row k w' w'.heap.size A zs := h.keep (fun _ hp => b.cell hp) b.size
theorem Row.under {k : IntKind} {w w' : World} {B : Nat} {A : Option Addr} {zs : List Int} (h : Row k w B A zs) (b : Below B w w') : Row k w' B A zs := h.keep (fun _ hp => b.cell hp) (Nat.le_refl _)
theorem Row.more {k : IntKind} {w : World} {B B' : Nat} {A : Option Addr} {zs : List Int} (h : Row k w B A zs) (hB : B ≤ B') : Row k w B' A zs := h.keep (fun _ _ => rfl) hB
theorem Row.drewN {k : IntKind} {w : World} {B : Nat} {A : Option Addr} {zs : List Int} (h : Row k w B A zs) (n : Nat) : Row k (w.drewN n) B A zs := h.keep (fun _ _ => rfl) (Nat.le_refl _)
theorem getD_take (zs : List Int) (n j : Nat) (h : j < n) : (zs.take n).getD j 0 = zs.getD j 0 := by
  rw [List.getD_eq_getElem?_getD, List.getElem?_take, if_pos h, List.getD_eq_getElem?_getD]
theorem Row.take {k : IntKind} {w : World} {B : Nat} {A : Option Addr} {zs : List Int} (h : Row k w B A zs) (n : Nat) : Row k w B A (zs.take n) := fun j hj => by
  rw [List.length_take] at hj
  rw [getD_take _ _ _ (by omega)]
  exact h j (by omega)
theorem Row.nil {k : IntKind} {w : World} {B : Nat} {A : Option Addr} : Row k w B A [] := fun j hj => absurd hj (by simp)
/-- A slice that came in. -/
theorem IsRow.row {k : IntKind} {w : World} {a : Option Addr} {len cap : Nat} {zs : List Int} (h : IsRow k w a len cap zs) :
    ∃ l : List Int, len = l.length ∧ Row k w w.heap.size a l ∧ l.length ≤ maxLen ∧ ∀ n ∈ l, (Lit.int k n).wf = true := by
  rcases h with ⟨rfl, rfl, rfl, rfl⟩ | ⟨x, rfl, h1, h2, h3, h4, h5⟩
  · exact ⟨[], rfl, Row.nil, by decide, by simp⟩
  · refine ⟨zs.take len, by rw [List.length_take]; omega, Row.take (fun j hj => ⟨x, rfl, ?_, h4 j hj⟩) _, by rw [List.length_take]; omega, fun n hn => h5 n (List.mem_of_mem_take hn)⟩
    have := lt_of_cell (h4 j hj)
    rwa [add_block] at this

/-- The slice v is nil, or lies in a block of the call's own from base on; it reads as the numbers zs. -/
def Own (k : IntKind) (e : TypeId) (w : World) (base : Nat) (v : Value) (zs : List Int) : Prop := w.ownsRow base e 1 v zs.length (zs.map (Value.int k))
theorem Own.nil {k : IntKind} {e : TypeId} {w : World} {base : Nat} : Own k e w base (.slice none 0 0) [] := ⟨rfl, Or.inl ⟨rfl, rfl⟩⟩
theorem Own.drewN {k : IntKind} {e : TypeId} {w : World} {base : Nat} {v : Value} {zs : List Int} (h : Own k e w base v zs) (n : Nat) : Own k e (w.drewN n) base v zs := h
theorem Own.alloc {k : IntKind} {e : TypeId} {w : World} {base : Nat} {v : Value} {zs : List Int} (h : Own k e w base v zs) (o : Obj) : Own k e (w.alloc o) base v zs := World.ownsRow.alloc h o
theorem Own.base {k : IntKind} {e : TypeId} {w : World} {base base' : Nat} {v : Value} {zs : List Int} (h : Own k e w base v zs) (hb : base' ≤ base) : Own k e w base' v zs := by
  refine ⟨h.1, ?_⟩
  rcases h.2 with g | ⟨g, cap, cur, e1, e2, e3⟩
  · exact Or.inl g
  · exact Or.inr ⟨g, cap, cur, e1, Nat.le_trans hb e2, e3⟩
theorem Own.below {k : IntKind} {e : TypeId} {w w' : World} {base : Nat} {v : Value} {zs : List Int} (h : Own k e w base v zs) (b : Below w.heap.size w w') : Own k e w' base v zs := by
  refine ⟨h.1, ?_⟩
  rcases h.2 with g | ⟨g, cap, cur, e1, e2, e3, e4⟩
  · exact Or.inl g
  · exact Or.inr ⟨g, cap, cur, e1, e2, (b.block g (Array.getElem?_eq_some_iff.1 e3).1).trans e3, e4⟩
/-- What it looks like. -/
theorem Own.slice {k : IntKind} {e : TypeId} {w : World} {base : Nat} {v : Value} {zs : List Int} (h : Own k e w base v zs) :
    ∃ A c, v = .slice A zs.length c ∧ Row k w w.heap.size A zs ∧ zs.length ≤ c ∧ zs.length ≤ maxLen ∧ (0 < zs.length → ∃ g, A = some ⟨g, 0, none⟩ ∧ base ≤ g ∧ g < w.heap.size) := by
  rcases h.2 with ⟨rfl, hn⟩ | ⟨g, cap, cur, rfl, e2, e3, e4, e5, e6, e7⟩
  · have : zs = [] := List.length_eq_zero_iff.1 hn
    subst this
    exact ⟨none, 0, rfl, Row.nil, Nat.le_refl _, by decide, fun h => absurd h (by simp)⟩
  · have hg : g < w.heap.size := (Array.getElem?_eq_some_iff.1 e3).1
    refine ⟨_, cap, rfl, fun j hj => ⟨_, rfl, hg, ?_⟩, e4, by omega, fun _ => ⟨g, rfl, e2, hg⟩⟩
    rw [add_own]
    have := World.ownsRow.cellAt h j (by omega)
    rw [this]
    simp [hj]
theorem Own.frozen {k : IntKind} {e : TypeId} {w : World} {base g n cap : Nat} {zs : List Int} (h : Own k e w base (.slice (some ⟨g, 0, none⟩) n cap) zs) (hn : n = zs.length) (j : Nat) : w.frozen? ⟨g, j, none⟩ = false := by
  subst hn; exact World.ownsRow.frozenAt h j
theorem Own.cell {k : IntKind} {e : TypeId} {w : World} {base g n cap : Nat} {zs : List Int} (h : Own k e w base (.slice (some ⟨g, 0, none⟩) n cap) zs) (hn : n = zs.length) (j : Nat) (hj : j < zs.length) : w.cell? ⟨g, j, none⟩ = some (.int k (zs.getD j 0)) := by
  subst hn
  rw [World.ownsRow.cellAt h j (by omega)]
  simp [hj]
theorem Own.store {k : IntKind} {e : TypeId} {w : World} {base g n cap : Nat} {zs : List Int} (h : Own k e w base (.slice (some ⟨g, 0, none⟩) n cap) zs) (hn : n = zs.length) (j : Nat) (x : Int) :
    Own k e (w.setCell ⟨g, j, none⟩ (.int k x)) base (.slice (some ⟨g, 0, none⟩) n cap) (zs.set j x) := by
  subst hn
  have := (World.ownsRow.stored h j (.int k x)).1
  unfold Own
  rwa [List.length_set, List.map_set]
theorem Own.kept {k : IntKind} {e : TypeId} {w w' : World} {base : Nat} {v : Value} {zs : List Int} {row : Option Nat} (h : Own k e w base v zs) (hg : w.grownBy w' row) (hne : v.ownBlock = none ∨ v.ownBlock ≠ row) : Own k e w' base v zs := World.ownsRow.kept h hg hne
/-- A slice of the call's own that has grown. -/
theorem Own.app {k : IntKind} {e : TypeId} {w : World} {base n m : Nat} {v : Value} {zs ys : List Int} (h : w.ownsRow base e 1 v (n + m) (zs.map (Value.int k) ++ ys.map (Value.int k))) (hn : n = zs.length) (hm : m = ys.length) : Own k e w base v (zs ++ ys) := by
  subst hn; subst hm
  unfold Own
  rwa [List.length_append, List.map_append]
theorem news_int {k : IntKind} {W : World} {T : TypeId} {ys : List Int} : ∀ j u, (ys.map (Value.int k))[j]? = some u → (W.alloc (.cells (ys.map (Value.int k)).toArray T)).cell? ((⟨W.heap.size, 0, none⟩ : Addr).add j) = some u := fun j u hj => by
  rw [add_own, cell_new]; simpa using hj
theorem one_cells {k : IntKind} {ys : List Int} : ∀ u ∈ ys.map (Value.int k), u.oneCell' = true := fun u hu => by
  obtain ⟨x, _, rfl⟩ := List.mem_map.1 hu; rfl
theorem own_block {k : IntKind} {e : TypeId} {w : World} {base : Nat} {v : Value} {zs : List Int} (h : Own k e w base v zs) {g : Nat} (hg : v.ownBlock = some g) : base ≤ g ∧ g < w.heap.size := by
  rcases h.2 with ⟨rfl, _⟩ | ⟨g', cap, cur, rfl, e2, e3, _⟩
  · simp [Value.ownBlock] at hg
  · simp [Value.ownBlock] at hg
    subst hg
    exact ⟨e2, (Array.getElem?_eq_some_iff.1 e3).1⟩
end Go.Proofs.Ytknkgcphamhjlaa
