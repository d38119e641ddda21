/-
  Stage 6: the reader's list.
-/
import Derived.Test.YtgiodpepjajlmaaCWagR
set_option linter.unusedSimpArgs false
set_option linter.unusedVariables false
namespace Go.Proofs.Ytgiodpepjajlmaa
open Go.RowKit

theorem infoWag : (Try.prog.info? 30).map (fun i => (i.zero, i.size, i.bytes)) = some (some (aggW wag0), 8, 80) := by kernel_rfl
theorem flatW_set (l : List Wag) (i : Nat) (x : Wag) : WR.flat (l.set i x) = ((((((((WR.flat l).set (i * 8) (.string x.num)).set (i * 8 + 1) (.int .i64 x.len)).set (i * 8 + 2) (.int .i64 x.axl)).set (i * 8 + 3) (.int .i64 x.mas)).set (i * 8 + 4) (.int .i64 x.brk)).set (i * 8 + 5) (.int .i64 x.gds)).set (i * 8 + 6) (.bool x.gen)).set (i * 8 + 7) (.string x.dst) := by
  induction l generalizing i with
  | nil => simp [Rec.flat]
  | cons y l ih =>
    cases i with
    | zero => rfl
    | succ i =>
      rw [show (i + 1) * 8 = i * 8 + 1 + 1 + 1 + 1 + 1 + 1 + 1 + 1 by omega]
      show cellsW y ++ WR.flat (l.set i x) = _
      rw [ih]
      rfl
theorem ROwn.putW {T : TypeId} {w : World} {base g n c : Nat} {l : List Wag} (h : ROwn WR T w base (.slice (some ⟨g, 0, none⟩) n c) l) (hn : n = l.length) (i : Nat) (x : Wag) :
    ROwn WR T ((((((((w.setCell ⟨g, i * 8, none⟩ (.string x.num)).setCell ⟨g, i * 8 + 1, none⟩ (.int .i64 x.len)).setCell ⟨g, i * 8 + 2, none⟩ (.int .i64 x.axl)).setCell ⟨g, i * 8 + 3, none⟩ (.int .i64 x.mas)).setCell ⟨g, i * 8 + 4, none⟩ (.int .i64 x.brk)).setCell ⟨g, i * 8 + 5, none⟩ (.int .i64 x.gds)).setCell ⟨g, i * 8 + 6, none⟩ (.bool x.gen)).setCell ⟨g, i * 8 + 7, none⟩ (.string x.dst)) base (.slice (some ⟨g, 0, none⟩) n c) (l.set i x) := by
  subst hn
  unfold ROwn
  rw [flatW_set, List.length_set]
  have h0 := (World.ownsRow.stored h (i * 8) (.string x.num)).1
  have h1 := (World.ownsRow.stored h0 (i * 8 + 1) (.int .i64 x.len)).1
  have h2 := (World.ownsRow.stored h1 (i * 8 + 2) (.int .i64 x.axl)).1
  have h3 := (World.ownsRow.stored h2 (i * 8 + 3) (.int .i64 x.mas)).1
  have h4 := (World.ownsRow.stored h3 (i * 8 + 4) (.int .i64 x.brk)).1
  have h5 := (World.ownsRow.stored h4 (i * 8 + 5) (.int .i64 x.gds)).1
  have h6 := (World.ownsRow.stored h5 (i * 8 + 6) (.bool x.gen)).1
  exact (World.ownsRow.stored h6 (i * 8 + 7) (.string x.dst)).1
/-- The cells of wagon k of the call's own list. -/
structure WAt (w : World) (g k : Nat) (x : Wag) : Prop where
  c0 : w.cell? ⟨g, k * 8, none⟩ = some (.string x.num)
  c1 : w.cell? ⟨g, k * 8 + 1, none⟩ = some (.int .i64 x.len)
  c2 : w.cell? ⟨g, k * 8 + 2, none⟩ = some (.int .i64 x.axl)
  c3 : w.cell? ⟨g, k * 8 + 3, none⟩ = some (.int .i64 x.mas)
  c4 : w.cell? ⟨g, k * 8 + 4, none⟩ = some (.int .i64 x.brk)
  c5 : w.cell? ⟨g, k * 8 + 5, none⟩ = some (.int .i64 x.gds)
  c6 : w.cell? ⟨g, k * 8 + 6, none⟩ = some (.bool x.gen)
  c7 : w.cell? ⟨g, k * 8 + 7, none⟩ = some (.string x.dst)
theorem ROwn.atW {T : TypeId} {w : World} {base g n c : Nat} {l : List Wag} (h : ROwn WR T w base (.slice (some ⟨g, 0, none⟩) n c) l) (hn : n = l.length) {k : Nat} {x : Wag} (hk : l[k]? = some x) : WAt w g k x ∧ ∀ j, w.frozen? ⟨g, j, none⟩ = false := by
  obtain ⟨A, c', e, R, _⟩ := h.full
  injection e with e1 _ _
  subst e1
  obtain ⟨ad, e2, C⟩ := R.at_ hk
  injection e2 with e2
  subst e2
  have hc : ∀ j u, (WR.cells x)[j]? = some u → w.cell? ⟨g, k * 8 + j, none⟩ = some u := fun j u hj => by
    have := C.cs j u hj
    rwa [add_own] at this
  exact ⟨⟨hc 0 _ rfl, hc 1 _ rfl, hc 2 _ rfl, hc 3 _ rfl, hc 4 _ rfl, hc 5 _ rfl, hc 6 _ rfl, hc 7 _ rfl⟩, fun j => h.frozen hn j⟩
theorem flat_made (n : Nat) : WR.flat (List.replicate n wag0) = (madeCells (cellsW wag0).toArray (n * 8)).toList := by
  refine List.ext_getElem? fun j => ?_
  by_cases hj : j < n * 8
  · have h8 : j % 8 < (cellsW wag0).length := Nat.mod_lt _ (by decide)
    have e := flatR_at WR (l := List.replicate n wag0) (k := j / 8) (x := wag0) (by rw [List.getElem?_replicate, if_pos (by omega)]) (j := j % 8) (u := (cellsW wag0)[j % 8]) (List.getElem?_eq_getElem h8)
    have ej : j / 8 * WR.m + j % 8 = j := by show j / 8 * 8 + j % 8 = j; omega
    rw [ej] at e
    rw [e]
    have h8' : j % 8 < 8 := h8
    have hz : (cellsW wag0).toArray.size = 8 := rfl
    simp only [madeCells, Array.toList_map, Array.toList_range, List.getElem?_map, List.getElem?_range hj, Option.map_some, hz]
    congr 1
    rw [getElem!_pos (cellsW wag0).toArray (j % 8) h8']
    rfl
  · rw [List.getElem?_eq_none (by rw [flatR_len, List.length_replicate]; show n * 8 ≤ j; omega), List.getElem?_eq_none (by rw [Array.length_toList, size_madeCells]; omega)]
theorem ROwn.made {w : World} {base n : Nat} (hb : base ≤ w.heap.size) (hn : n ≤ 1000000) : ROwn WR 30 (w.alloc (.cells (madeCells (cellsW wag0).toArray (n * 8)) 30)) base (.slice (some ⟨w.heap.size, 0, none⟩) n n) (List.replicate n wag0) := by
  refine ⟨by rw [flatR_len], Or.inr ⟨w.heap.size, n, _, by rw [List.length_replicate], hb, heap_alloc_new w _, by rw [List.length_replicate]; exact Nat.le_refl _, by unfold maxLen; omega, by rw [size_madeCells]; rfl, ?_⟩⟩
  rw [flat_made, List.length_replicate]
  exact List.take_of_length_le (by rw [Array.length_toList, size_madeCells]; exact Nat.le_refl _)

/-- Behind k wagons from place n on. -/
def lsN (bs : List Int) (n : Nat) : Nat → Nat
  | 0 => n
  | k + 1 => rdN bs (lsN bs n k)
def lsS (bs : List Int) (n : Nat) (s : Bool) : Nat → Bool
  | 0 => s
  | k + 1 => rdS bs (lsN bs n k) (lsS bs n s k)
def lsG (bs : List Int) (n : Nat) (g : Bool) : Nat → Bool
  | 0 => g
  | k + 1 => rdG bs (lsN bs n k) (lsG bs n g k)
def lsX (bs : List Int) (n : Nat) : Nat → List Wag
  | 0 => []
  | k + 1 => lsX bs n k ++ [rdX bs (lsN bs n k)]
theorem lsX_len (bs : List Int) (n k : Nat) : (lsX bs n k).length = k := by
  induction k with
  | zero => rfl
  | succ k ih => unfold lsX; rw [List.length_append, ih]; rfl
/-- The list while it is read. -/
def part (bs : List Int) (n k K : Nat) : List Wag := lsX bs n k ++ List.replicate (K - k) wag0
theorem part_at {bs : List Int} {n k K : Nat} (h : k < K) : (part bs n k K)[k]? = some wag0 := by
  unfold part
  rw [List.getElem?_append_right (by rw [lsX_len]; exact Nat.le_refl _), lsX_len, Nat.sub_self, List.getElem?_replicate, if_pos (by omega)]
theorem part_set {bs : List Int} {n k K : Nat} (h : k < K) : (part bs n k K).set k (rdX bs (lsN bs n k)) = part bs n (k + 1) K := by
  unfold part
  rw [List.set_append_right _ _ (by rw [lsX_len]; exact Nat.le_refl _), lsX_len, Nat.sub_self]
  obtain ⟨m, hm⟩ : ∃ m, K - k = m + 1 := ⟨K - k - 1, by omega⟩
  rw [hm, show K - (k + 1) = m by omega]
  show _ = (lsX bs n k ++ [rdX bs (lsN bs n k)]) ++ _
  rw [List.append_assoc]
  rfl
theorem part_len {bs : List Int} {n k K : Nat} (h : k ≤ K) : (part bs n k K).length = K := by
  unfold part; rw [List.length_append, lsX_len, List.length_replicate]; omega
theorem ROwn.other {T : TypeId} {w : World} {base : Nat} {v : Value} {l : List Wag} (h : ROwn WR T w base v l) {p : Addr} (hp : p.block < base) (u : Value) : ROwn WR T (w.setCell p u) base v l := by
  refine ⟨h.1, ?_⟩
  rcases h.2 with g | ⟨g, cap, cur, e1, e2, e3, e4⟩
  · exact Or.inl g
  · exact Or.inr ⟨g, cap, cur, e1, e2, (Below.heap_setCell _ _ _ _ (by omega)).trans e3, e4⟩
theorem Rd.putW {w : World} {p g : Nat} {A : Option Addr} {c n : Nat} {bs : List Int} {s t : Bool} (h : Rd w p A c bs n s t) (hb : p < g) (i : Nat) (x : Wag) :
    Rd ((((((((w.setCell ⟨g, i * 8, none⟩ (.string x.num)).setCell ⟨g, i * 8 + 1, none⟩ (.int .i64 x.len)).setCell ⟨g, i * 8 + 2, none⟩ (.int .i64 x.axl)).setCell ⟨g, i * 8 + 3, none⟩ (.int .i64 x.mas)).setCell ⟨g, i * 8 + 4, none⟩ (.int .i64 x.brk)).setCell ⟨g, i * 8 + 5, none⟩ (.int .i64 x.gds)).setCell ⟨g, i * 8 + 6, none⟩ (.bool x.gen)).setCell ⟨g, i * 8 + 7, none⟩ (.string x.dst)) p A c bs n s t :=
  (((((((h.other (q := ⟨g, i * 8, none⟩) hb _).other (q := ⟨g, i * 8 + 1, none⟩) hb _).other (q := ⟨g, i * 8 + 2, none⟩) hb _).other (q := ⟨g, i * 8 + 3, none⟩) hb _).other (q := ⟨g, i * 8 + 4, none⟩) hb _).other (q := ⟨g, i * 8 + 5, none⟩) hb _).other (q := ⟨g, i * 8 + 6, none⟩) hb _).other (q := ⟨g, i * 8 + 7, none⟩) hb _
theorem Moves.putW {m g : Nat} {w w' : World} (h : Moves m w w') (hb : w.heap.size ≤ g) (i : Nat) (x : Wag) :
    Moves m w ((((((((w'.setCell ⟨g, i * 8, none⟩ (.string x.num)).setCell ⟨g, i * 8 + 1, none⟩ (.int .i64 x.len)).setCell ⟨g, i * 8 + 2, none⟩ (.int .i64 x.axl)).setCell ⟨g, i * 8 + 3, none⟩ (.int .i64 x.mas)).setCell ⟨g, i * 8 + 4, none⟩ (.int .i64 x.brk)).setCell ⟨g, i * 8 + 5, none⟩ (.int .i64 x.gds)).setCell ⟨g, i * 8 + 6, none⟩ (.bool x.gen)).setCell ⟨g, i * 8 + 7, none⟩ (.string x.dst)) :=
  (((((((h.setCell (p := ⟨g, i * 8, none⟩) (Or.inr hb) _).setCell (p := ⟨g, i * 8 + 1, none⟩) (Or.inr hb) _).setCell (p := ⟨g, i * 8 + 2, none⟩) (Or.inr hb) _).setCell (p := ⟨g, i * 8 + 3, none⟩) (Or.inr hb) _).setCell (p := ⟨g, i * 8 + 4, none⟩) (Or.inr hb) _).setCell (p := ⟨g, i * 8 + 5, none⟩) (Or.inr hb) _).setCell (p := ⟨g, i * 8 + 6, none⟩) (Or.inr hb) _).setCell (p := ⟨g, i * 8 + 7, none⟩) (Or.inr hb) _
/-- How many wagons; where they begin. -/
def cntV (bs : List Int) (n : Nat) : Nat := (sgV bs n).toNat
def LsPost (p : Nat) (A : Option Addr) (c : Nat) (bs : List Int) (n : Nat) (s g : Bool) (w : World) (e : Ending) (w' : World) : Prop :=
  ∃ b, e = .returned (.slice (some ⟨b, 0, none⟩) (cntV bs n) (cntV bs n)) ∧ ROwn WR 30 w' w.heap.size (.slice (some ⟨b, 0, none⟩) (cntV bs n) (cntV bs n)) (lsX bs (tkN bs n 1) (cntV bs n)) ∧
    Rd w' p A c bs (lsN bs (tkN bs n 1) (cntV bs n)) (lsS bs (tkN bs n 1) (tkS bs n 1 s) (cntV bs n)) (lsG bs (tkN bs n 1) g (cntV bs n)) ∧ Moves p w w'
end Go.Proofs.Ytgiodpepjajlmaa
