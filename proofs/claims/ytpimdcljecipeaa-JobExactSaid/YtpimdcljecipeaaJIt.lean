/-
  Stage 11: lists of items (four numbers each) in memory.
-/
import Derived.Test.YtpimdcljecipeaaFlat
import Derived.Test.YtpimdcljecipeaaMaker
set_option linter.unusedSimpArgs false
set_option linter.unusedVariables false
namespace Go.Proofs.Ytpimdcljecipeaa
open Go.RowKit

theorem getD_mem {zs : List Int} {k : Nat} (hk : k < zs.length) : zs.getD k 0 ∈ zs := by
  rw [List.getD_eq_getElem?_getD, List.getElem?_eq_getElem hk]; exact List.getElem_mem hk
/-- Train, block, round, length. -/
abbrev It := Int × Int × Int × Int
abbrev it0 : It := (0, 0, 0, 0)
def okI (p : It) : Prop := (0 ≤ p.1 ∧ p.1 ≤ 15) ∧ (0 ≤ p.2.1 ∧ p.2.1 ≤ 31) ∧ (0 ≤ p.2.2.1 ∧ p.2.2.1 ≤ 12) ∧ (1 ≤ p.2.2.2 ∧ p.2.2.2 ≤ 400)
instance (p : It) : Decidable (okI p) := by unfold okI; infer_instance
/-- An item as a value. -/
abbrev itv (p : It) : Value := .agg #[.int .i64 p.1, .int .i64 p.2.1, .int .i64 p.2.2.1, .int .i64 p.2.2.2]
def flatI : List It → List Int
  | [] => []
  | p :: l => p.1 :: p.2.1 :: p.2.2.1 :: p.2.2.2 :: flatI l
theorem flatI_len (l : List It) : (flatI l).length = l.length * 4 := by
  induction l with
  | nil => rfl
  | cons p l ih => unfold flatI; simp only [List.length_cons]; omega
theorem flatI_app (l m : List It) : flatI (l ++ m) = flatI l ++ flatI m := by
  induction l with
  | nil => rfl
  | cons p l ih =>
    show p.1 :: p.2.1 :: p.2.2.1 :: p.2.2.2 :: flatI (l ++ m) = _
    rw [ih]; rfl
theorem flatI_at (l : List It) (k : Nat) : (flatI l).getD (k * 4) 0 = (l.getD k it0).1 ∧ (flatI l).getD (k * 4 + 1) 0 = (l.getD k it0).2.1 ∧ (flatI l).getD (k * 4 + 2) 0 = (l.getD k it0).2.2.1 ∧ (flatI l).getD (k * 4 + 3) 0 = (l.getD k it0).2.2.2 := by
  induction l generalizing k with
  | nil => exact ⟨rfl, rfl, rfl, rfl⟩
  | cons p l ih =>
    cases k with
    | zero => exact ⟨rfl, rfl, rfl, rfl⟩
    | succ k =>
      have := ih k
      rw [show (k + 1) * 4 = k * 4 + 4 by omega]
      exact this
theorem flatI_set (l : List It) (k : Nat) (p : It) : flatI (l.set k p) = ((((flatI l).set (k * 4) p.1).set (k * 4 + 1) p.2.1).set (k * 4 + 2) p.2.2.1).set (k * 4 + 3) p.2.2.2 := by
  induction l generalizing k with
  | nil => rfl
  | cons q l ih =>
    cases k with
    | zero => rfl
    | succ k =>
      rw [show (k + 1) * 4 = k * 4 + 1 + 1 + 1 + 1 by omega]
      show q.1 :: q.2.1 :: q.2.2.1 :: q.2.2.2 :: flatI (l.set k p) = _
      rw [ih]
      rfl
theorem getD_memI {l : List It} {k : Nat} (hk : k < l.length) : l.getD k it0 ∈ l := by
  rw [List.getD_eq_getElem?_getD, List.getElem?_eq_getElem hk]; exact List.getElem_mem hk
/-- The slice from A on reads as the items l. -/
structure IRow (w : World) (A : Option Addr) (l : List It) : Prop where
  row : Row .i64 w w.heap.size A (flatI l)
  len : l.length ≤ maxLen
theorem IRow.below {w w' : World} {A : Option Addr} {l : List It} (h : IRow w A l) (b : Below w.heap.size w w') : IRow w' A l := ⟨h.row.below b, h.len⟩
theorem IRow.drewN {w : World} {A : Option Addr} {l : List It} (h : IRow w A l) (n : Nat) : IRow (w.drewN n) A l := ⟨h.row, h.len⟩
theorem IRow.nil {w : World} {A : Option Addr} : IRow w A [] := ⟨Row.nil, by decide⟩
/-- The cells of one element. -/
structure ICel (w : World) (ad : Addr) (k : Nat) (p : It) : Prop where
  c0 : w.cell? (ad.add (k * 4)) = some (.int .i64 p.1)
  c1 : w.cell? (ad.add (k * 4 + 1)) = some (.int .i64 p.2.1)
  c2 : w.cell? (ad.add (k * 4 + 2)) = some (.int .i64 p.2.2.1)
  c3 : w.cell? (ad.add (k * 4 + 3)) = some (.int .i64 p.2.2.2)
  lt : ad.block < w.heap.size
theorem IRow.at_ {w : World} {A : Option Addr} {l : List It} (h : IRow w A l) (k : Nat) (hk : k < l.length) : ∃ ad : Addr, A = some ad ∧ ICel w ad k (l.getD k it0) := by
  have hl := flatI_len l
  obtain ⟨e0, e1, e2, e3⟩ := flatI_at l k
  obtain ⟨ad, rfl, hb, h0⟩ := h.row (k * 4) (by omega)
  obtain ⟨ad1, g1, _, h1⟩ := h.row (k * 4 + 1) (by omega)
  obtain ⟨ad2, g2, _, h2⟩ := h.row (k * 4 + 2) (by omega)
  obtain ⟨ad3, g3, _, h3⟩ := h.row (k * 4 + 3) (by omega)
  obtain rfl : ad = ad1 := by injection g1
  obtain rfl : ad = ad2 := by injection g2
  obtain rfl : ad = ad3 := by injection g3
  rw [e0] at h0; rw [e1] at h1; rw [e2] at h2; rw [e3] at h3
  exact ⟨ad, rfl, h0, h1, h2, h3, hb⟩
theorem ICel.below {w w' : World} {ad : Addr} {k : Nat} {p : It} (h : ICel w ad k p) (b : Below w.heap.size w w') : ICel w' ad k p :=
  ⟨(b.cell (by rw [add_block]; exact h.lt)).trans h.c0, (b.cell (by rw [add_block]; exact h.lt)).trans h.c1, (b.cell (by rw [add_block]; exact h.lt)).trans h.c2, (b.cell (by rw [add_block]; exact h.lt)).trans h.c3, Nat.lt_of_lt_of_le h.lt b.size⟩
/-- The cells, spelt as the walks ask for them. -/
theorem ICel.spelt {w : World} {ad : Addr} {k : Nat} {p : It} (h : ICel w ad k p) :
    w.cell? (ad.add (k * 4)) = some (.int .i64 p.1) ∧ w.cell? ⟨(ad.add (k * 4)).block, (ad.add (k * 4)).off + 1, none⟩ = some (.int .i64 p.2.1) ∧ w.cell? ⟨(ad.add (k * 4)).block, (ad.add (k * 4)).off + 2, none⟩ = some (.int .i64 p.2.2.1) ∧ w.cell? ⟨(ad.add (k * 4)).block, (ad.add (k * 4)).off + 3, none⟩ = some (.int .i64 p.2.2.2) := by
  have e : ∀ j, 0 < j → ad.add (k * 4 + j) = ⟨(ad.add (k * 4)).block, (ad.add (k * 4)).off + j, none⟩ := fun j hj => by
    unfold Addr.add
    by_cases g : k * 4 = 0
    · rw [if_neg (by omega), if_pos g, g, Nat.zero_add]
    · rw [if_neg (by omega), if_neg g, Nat.add_assoc]
  exact ⟨h.c0, (by rw [← e 1 (by decide)]; exact h.c1), (by rw [← e 2 (by decide)]; exact h.c2), (by rw [← e 3 (by decide)]; exact h.c3)⟩
theorem ICel.zero {w : World} {ad : Addr} {p : It} (h : ICel w ad 0 p) :
    w.cell? ad = some (.int .i64 p.1) ∧ w.cell? ⟨ad.block, ad.off + 1, none⟩ = some (.int .i64 p.2.1) ∧ w.cell? ⟨ad.block, ad.off + 2, none⟩ = some (.int .i64 p.2.2.1) ∧ w.cell? ⟨ad.block, ad.off + 3, none⟩ = some (.int .i64 p.2.2.2) := by
  have e : ad.add 0 = ad := by unfold Addr.add; rw [if_pos rfl]
  have := h.spelt
  rwa [Nat.zero_mul, e] at this
/-- Block b holds the item p. -/
structure IPl (w : World) (b : Nat) (p : It) : Prop where
  c0 : w.cell? ⟨b, 0, none⟩ = some (.int .i64 p.1)
  c1 : w.cell? ⟨b, 1, none⟩ = some (.int .i64 p.2.1)
  c2 : w.cell? ⟨b, 2, none⟩ = some (.int .i64 p.2.2.1)
  c3 : w.cell? ⟨b, 3, none⟩ = some (.int .i64 p.2.2.2)
  lt : b < w.heap.size
theorem IPl.below {w w' : World} {b : Nat} {p : It} (h : IPl w b p) (k : Below w.heap.size w w') : IPl w' b p :=
  ⟨(k.cell (p := ⟨b, 0, none⟩) h.lt).trans h.c0, (k.cell (p := ⟨b, 1, none⟩) h.lt).trans h.c1, (k.cell (p := ⟨b, 2, none⟩) h.lt).trans h.c2, (k.cell (p := ⟨b, 3, none⟩) h.lt).trans h.c3, Nat.lt_of_lt_of_le h.lt k.size⟩
theorem IPl.new {w : World} {p : It} {T : TypeId} (b : Nat) (hb : b = w.heap.size) : IPl (w.alloc (.cells #[.int .i64 p.1, .int .i64 p.2.1, .int .i64 p.2.2.1, .int .i64 p.2.2.2] T)) b p := by
  subst hb; exact ⟨by rw [cell_new]; rfl, by rw [cell_new]; rfl, by rw [cell_new]; rfl, by rw [cell_new]; rfl, by simp⟩
theorem IPl.alloc {w : World} {b : Nat} {p : It} (h : IPl w b p) (o : Obj) : IPl (w.alloc o) b p := h.below ((Below.refl _ _).alloc (Nat.le_refl _) _)
theorem IPl.drewN {w : World} {b : Nat} {p : It} (h : IPl w b p) (n : Nat) : IPl (w.drewN n) b p := ⟨h.c0, h.c1, h.c2, h.c3, h.lt⟩
theorem IPl.put4 {w : World} {b : Nat} {p : It} {u v z y : Value} (h0 : w.cell? ⟨b, 0, none⟩ = some u) (h1 : w.cell? ⟨b, 1, none⟩ = some v) (h2 : w.cell? ⟨b, 2, none⟩ = some z) (h3 : w.cell? ⟨b, 3, none⟩ = some y) (hl : b < w.heap.size) :
    IPl ((((w.setCell ⟨b, 0, none⟩ (.int .i64 p.1)).setCell ⟨b, 1, none⟩ (.int .i64 p.2.1)).setCell ⟨b, 2, none⟩ (.int .i64 p.2.2.1)).setCell ⟨b, 3, none⟩ (.int .i64 p.2.2.2)) b p := by
  have g1 : (w.setCell ⟨b, 0, none⟩ (.int .i64 p.1)).cell? ⟨b, 1, none⟩ = some v := by rw [World.cell?_setCell_other _ _ _ _ (by simp)]; exact h1
  have g2 : ((w.setCell ⟨b, 0, none⟩ (.int .i64 p.1)).setCell ⟨b, 1, none⟩ (.int .i64 p.2.1)).cell? ⟨b, 2, none⟩ = some z := by rw [World.cell?_setCell_other _ _ _ _ (by simp), World.cell?_setCell_other _ _ _ _ (by simp)]; exact h2
  have g3 : (((w.setCell ⟨b, 0, none⟩ (.int .i64 p.1)).setCell ⟨b, 1, none⟩ (.int .i64 p.2.1)).setCell ⟨b, 2, none⟩ (.int .i64 p.2.2.1)).cell? ⟨b, 3, none⟩ = some y := by rw [World.cell?_setCell_other _ _ _ _ (by simp), World.cell?_setCell_other _ _ _ _ (by simp), World.cell?_setCell_other _ _ _ _ (by simp)]; exact h3
  refine ⟨?_, ?_, ?_, World.cell?_setCell_same _ _ _ g3, by rw [World.size_setCell, World.size_setCell, World.size_setCell, World.size_setCell]; exact hl⟩
  · rw [World.cell?_setCell_other _ _ _ _ (by simp), World.cell?_setCell_other _ _ _ _ (by simp), World.cell?_setCell_other _ _ _ _ (by simp)]; exact World.cell?_setCell_same _ _ _ h0
  · rw [World.cell?_setCell_other _ _ _ _ (by simp), World.cell?_setCell_other _ _ _ _ (by simp)]; exact World.cell?_setCell_same _ _ _ g1
  · rw [World.cell?_setCell_other _ _ _ _ (by simp)]; exact World.cell?_setCell_same _ _ _ g2
/-- The slice v of items is the call's own. -/
def IOwn (T : TypeId) (w : World) (base : Nat) (v : Value) (l : List It) : Prop := Flat T 4 w base v l.length (flatI l)
theorem IOwn.nil {T : TypeId} {w : World} {base : Nat} : IOwn T w base (.slice none 0 0) [] := Flat.nil
theorem IOwn.drewN {T : TypeId} {w : World} {base : Nat} {v : Value} {l : List It} (h : IOwn T w base v l) (n : Nat) : IOwn T (w.drewN n) base v l := h
theorem IOwn.alloc {T : TypeId} {w : World} {base : Nat} {v : Value} {l : List It} (h : IOwn T w base v l) (o : Obj) : IOwn T (w.alloc o) base v l := Flat.alloc h o
theorem IOwn.below {T : TypeId} {w w' : World} {base : Nat} {v : Value} {l : List It} (h : IOwn T w base v l) (b : Below w.heap.size w w') : IOwn T w' base v l := Flat.below h b
theorem IOwn.base {T : TypeId} {w : World} {base base' : Nat} {v : Value} {l : List It} (h : IOwn T w base v l) (hb : base' ≤ base) : IOwn T w base' v l := Flat.base h hb
theorem IOwn.kept {T : TypeId} {w w' : World} {base : Nat} {v : Value} {l : List It} {row : Option Nat} (h : IOwn T w base v l) (hg : w.grownBy w' row) (hne : v.ownBlock = none ∨ v.ownBlock ≠ row) : IOwn T w' base v l := Flat.kept h hg hne
theorem IOwn.block {T : TypeId} {w : World} {base : Nat} {v : Value} {l : List It} (h : IOwn T w base v l) {g : Nat} (hg : v.ownBlock = some g) : base ≤ g ∧ g < w.heap.size := Flat.block h hg
theorem IOwn.app {T : TypeId} {w : World} {base n k : Nat} {v : Value} {l m : List It} (h : w.ownsRow base T 4 v (n + k) ((flatI l).map (Value.int .i64) ++ (flatI m).map (Value.int .i64))) (hn : n = l.length) (hk : k = m.length) : IOwn T w base v (l ++ m) := by
  subst hn; subst hk
  unfold IOwn
  rw [List.length_append, flatI_app]
  exact Flat.app h
theorem IOwn.full {T : TypeId} {w : World} {base : Nat} {v : Value} {l : List It} (h : IOwn T w base v l) :
    ∃ A c, v = .slice A l.length c ∧ IRow w A l ∧ l.length ≤ c ∧ c ≤ maxLen ∧ (0 < l.length → ∃ g, A = some ⟨g, 0, none⟩ ∧ base ≤ g ∧ g < w.heap.size) := by
  obtain ⟨A, c, rfl, R, h1, h2, h3⟩ := Flat.slice h
  refine ⟨A, c, rfl, ⟨R, h2⟩, h1, ?_, h3⟩
  rcases h.2 with ⟨e, _⟩ | ⟨g, cap, cur, e, _, _, _, h5, _⟩
  · injection e with e1 e2 e3; rw [e3]; decide
  · injection e with e1 e2 e3; rw [e3]; exact h5
theorem IOwn.irow {T : TypeId} {w : World} {base n c : Nat} {A : Option Addr} {l : List It} (h : IOwn T w base (.slice A n c) l) : IRow w A l := by
  obtain ⟨A', c', e, R, _⟩ := h.full
  injection e with e1
  rw [e1]; exact R
theorem Moves.grown {m : Nat} {a b c : World} {row : Option Nat} (h : Moves m a b) (g : b.grownBy c row) (hr : ∀ k, row = some k → a.heap.size ≤ k) : Moves m a c :=
  ⟨g.os.trans h.os, g.tape.trans h.tape, g.output.trans h.output, Nat.le_trans h.size g.size, fun i hi hm => (g.block i (Nat.lt_of_lt_of_le hi h.size) (fun e => by have := hr i e.symm; omega)).trans (h.block i hi hm)⟩
theorem Flat.moves {e : TypeId} {k m : Nat} {w w' : World} {base : Nat} {v : Value} {n : Nat} {zs : List Int} (h : Flat e k w base v n zs) (b : Moves m w w') (hm : m < base) : Flat e k w' base v n zs := by
  refine ⟨h.1, ?_⟩
  rcases h.2 with g | ⟨g, cap, cur, e1, e2, e3, e4⟩
  · exact Or.inl g
  · exact Or.inr ⟨g, cap, cur, e1, e2, (b.block g (Array.getElem?_eq_some_iff.1 e3).1 (by omega)).trans e3, e4⟩
theorem IOwn.moves {T : TypeId} {m : Nat} {w w' : World} {base : Nat} {v : Value} {l : List It} (h : IOwn T w base v l) (b : Moves m w w') (hm : m < base) : IOwn T w' base v l := Flat.moves h b hm
theorem Own.moves {k : IntKind} {e : TypeId} {m : Nat} {w w' : World} {base : Nat} {v : Value} {zs : List Int} (h : Own k e w base v zs) (b : Moves m w w') (hm : m < base) : Own k e w' base v zs := by
  refine ⟨h.1, ?_⟩
  rcases h.2 with g | ⟨g, cap, cur, e1, e2, e3, e4⟩
  · exact Or.inl g
  · exact Or.inr ⟨g, cap, cur, e1, e2, (b.block g (Array.getElem?_eq_some_iff.1 e3).1 (by omega)).trans e3, e4⟩
theorem IsMk.grown {w w' : World} {m N : Nat} {row : Option Nat} (h : IsMk w m N) (g : w.grownBy w' row) (hr : ∀ k, row = some k → m < k) : IsMk w' m N :=
  h.stays ((Below.refl (m + 1) w).grown g h.lt (fun k e => hr k e))
/-- An element of the call's own, for a store. -/
theorem IOwn.at4 {T : TypeId} {w : World} {base g n c : Nat} {l : List It} (h : IOwn T w base (.slice (some ⟨g, 0, none⟩) n c) l) (hn : n = l.length) {k : Nat} (hk : k < l.length) :
    (w.cell? ⟨g, k * 4, none⟩ = some (.int .i64 (l.getD k it0).1) ∧ w.cell? ⟨g, k * 4 + 1, none⟩ = some (.int .i64 (l.getD k it0).2.1) ∧ w.cell? ⟨g, k * 4 + 2, none⟩ = some (.int .i64 (l.getD k it0).2.2.1) ∧ w.cell? ⟨g, k * 4 + 3, none⟩ = some (.int .i64 (l.getD k it0).2.2.2)) ∧
    ∀ j, w.frozen? ⟨g, j, none⟩ = false := by
  subst hn
  have hl := flatI_len l
  obtain ⟨e0, e1, e2, e3⟩ := flatI_at l k
  refine ⟨⟨?_, ?_, ?_, ?_⟩, fun j => Flat.frozen h j⟩
  · rw [← e0]; exact Flat.cell h _ (by omega)
  · rw [← e1]; exact Flat.cell h _ (by omega)
  · rw [← e2]; exact Flat.cell h _ (by omega)
  · rw [← e3]; exact Flat.cell h _ (by omega)
/-- The maker of a list that came in. -/
theorem mk_row {w : World} {A : Option Addr} {c : Nat} {l : List Int} {T : TypeId} (h : Row .i64 w w.heap.size A l) (hm : l.length ≤ maxLen) (hw : ∀ n ∈ l, (Lit.int .i64 n).wf = true) : IsMk (w.alloc (.cells #[.slice A l.length c, .int .i64 0] T)) w.heap.size 0 := by
  have e : (w.alloc (.cells #[.slice A l.length c, .int .i64 0] T)).heap[w.heap.size]? = some (.cells #[.slice A l.length c, .int .i64 0] T) := by
    show (w.heap.push _)[w.heap.size]? = _
    rw [Array.getElem?_push, if_pos rfl]
  refine ⟨by simp, ⟨0, Nat.le_refl _, by rw [cell_new]; rfl⟩, ?_, A, l.length, c, by rw [cell_new]; rfl, hm, ?_⟩
  · unfold World.frozen?; rw [e]; rfl
  · rcases Nat.eq_zero_or_pos l.length with h0 | h0
    · exact Or.inl h0
    · obtain ⟨ad, rfl, hb, h1⟩ := h 0 h0
      obtain ⟨b, off, spot⟩ := ad
      have hs : spot = none := by simpa [Addr.add] using World.cell?_spot h1
      subst hs
      refine Or.inr ⟨b, off, rfl, hb, fun i hi => ⟨l.getD i 0, ?_, bounds_i64 (hw _ (getD_mem hi))⟩⟩
      obtain ⟨ad', e', _, hc⟩ := h i hi
      have ea : (⟨b, off, none⟩ : Addr) = ad' := by injection e'
      subst ea
      rw [((Below.refl w.heap.size w).alloc (Nat.le_refl _) _).cell (p := ⟨b, off + i, none⟩) hb]
      by_cases i0 : i = 0
      · subst i0; simpa [Addr.add] using hc
      · simpa [Addr.add, i0] using hc
end Go.Proofs.Ytpimdcljecipeaa
