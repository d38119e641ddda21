/-
  Lists of triples of numbers (pulses, borders) in memory.
-/
import Derived.Test.YtbnlaopmmgoalaaFlat
import Derived.Test.YtbnlaopmmgoalaaMaker
set_option linter.unusedSimpArgs false
set_option linter.unusedVariables false
namespace Go.Proofs.Ytbnlaopmmgoalaa
open Go.RowKit

theorem getD_mem {zs : List Int} {k : Nat} (hk : k < zs.length) : zs.getD k 0 ∈ zs := by
  rw [List.getD_eq_getElem?_getD, List.getElem?_eq_getElem hk]; exact List.getElem_mem hk
/-- Detector, time, direction. -/
abbrev Pul := Int × Int × Int
def okP (p : Pul) : Prop := (0 ≤ p.1 ∧ p.1 ≤ 31) ∧ (0 ≤ p.2.1 ∧ p.2.1 ≤ 1000000000) ∧ (p.2.2 = 1 ∨ p.2.2 = -1)
instance (p : Pul) : Decidable (okP p) := by unfold okP; infer_instance
/-- A valid list, behind a time. -/
def run (t : Int) : List Pul → Prop
  | [] => True
  | p :: l => okP p ∧ t ≤ p.2.1 ∧ run p.2.1 l
/-- A triple as a value. -/
abbrev pul (p : Pul) : Value := .agg #[.int .i64 p.1, .int .i64 p.2.1, .int .i64 p.2.2]
def flatP : List Pul → List Int
  | [] => []
  | p :: l => p.1 :: p.2.1 :: p.2.2 :: flatP l
theorem flatP_len (l : List Pul) : (flatP l).length = l.length * 3 := by
  induction l with
  | nil => rfl
  | cons p l ih => unfold flatP; simp only [List.length_cons]; omega
theorem flatP_app (l m : List Pul) : flatP (l ++ m) = flatP l ++ flatP m := by
  induction l with
  | nil => rfl
  | cons p l ih =>
    show p.1 :: p.2.1 :: p.2.2 :: flatP (l ++ m) = _
    rw [ih]; rfl
theorem flatP_at (l : List Pul) (k : Nat) : (flatP l).getD (k * 3) 0 = (l.getD k (0, 0, 0)).1 ∧ (flatP l).getD (k * 3 + 1) 0 = (l.getD k (0, 0, 0)).2.1 ∧ (flatP l).getD (k * 3 + 2) 0 = (l.getD k (0, 0, 0)).2.2 := by
  induction l generalizing k with
  | nil => exact ⟨rfl, rfl, rfl⟩
  | cons p l ih =>
    cases k with
    | zero => exact ⟨rfl, rfl, rfl⟩
    | succ k =>
      have := ih k
      rw [show (k + 1) * 3 = k * 3 + 3 by omega]
      exact this
theorem getD_memP {l : List Pul} {k : Nat} (hk : k < l.length) : l.getD k (0, 0, 0) ∈ l := by
  rw [List.getD_eq_getElem?_getD, List.getElem?_eq_getElem hk]; exact List.getElem_mem hk
/-- The slice from A on reads as the pulses l. -/
structure PRow (w : World) (A : Option Addr) (l : List Pul) : Prop where
  row : Row .i64 w w.heap.size A (flatP l)
  len : l.length ≤ maxLen
theorem PRow.below {w w' : World} {A : Option Addr} {l : List Pul} (h : PRow w A l) (b : Below w.heap.size w w') : PRow w' A l := ⟨h.row.below b, h.len⟩
theorem PRow.drewN {w : World} {A : Option Addr} {l : List Pul} (h : PRow w A l) (n : Nat) : PRow (w.drewN n) A l := ⟨h.row, h.len⟩
theorem PRow.nil {w : World} {A : Option Addr} : PRow w A [] := ⟨Row.nil, by decide⟩
/-- The cells of one element. -/
structure Cel (w : World) (ad : Addr) (k : Nat) (p : Pul) : Prop where
  c0 : w.cell? (ad.add (k * 3)) = some (.int .i64 p.1)
  c1 : w.cell? (ad.add (k * 3 + 1)) = some (.int .i64 p.2.1)
  c2 : w.cell? (ad.add (k * 3 + 2)) = some (.int .i64 p.2.2)
  lt : ad.block < w.heap.size
theorem PRow.at_ {w : World} {A : Option Addr} {l : List Pul} (h : PRow w A l) (k : Nat) (hk : k < l.length) : ∃ ad : Addr, A = some ad ∧ Cel w ad k (l.getD k (0, 0, 0)) := by
  have hl := flatP_len l
  obtain ⟨e0, e1, e2⟩ := flatP_at l k
  obtain ⟨ad, rfl, hb, h0⟩ := h.row (k * 3) (by omega)
  obtain ⟨ad1, g1, _, h1⟩ := h.row (k * 3 + 1) (by omega)
  obtain ⟨ad2, g2, _, h2⟩ := h.row (k * 3 + 2) (by omega)
  obtain rfl : ad = ad1 := by injection g1
  obtain rfl : ad = ad2 := by injection g2
  rw [e0] at h0; rw [e1] at h1; rw [e2] at h2
  exact ⟨ad, rfl, h0, h1, h2, hb⟩
theorem Cel.below {w w' : World} {ad : Addr} {k : Nat} {p : Pul} (h : Cel w ad k p) (b : Below w.heap.size w w') : Cel w' ad k p :=
  ⟨(b.cell (by rw [add_block]; exact h.lt)).trans h.c0, (b.cell (by rw [add_block]; exact h.lt)).trans h.c1, (b.cell (by rw [add_block]; exact h.lt)).trans h.c2, Nat.lt_of_lt_of_le h.lt b.size⟩

/-- The cells, spelt as the walks ask for them. -/
theorem Cel.spelt {w : World} {ad : Addr} {k : Nat} {p : Pul} (h : Cel w ad k p) :
    w.cell? (ad.add (k * 3)) = some (.int .i64 p.1) ∧ w.cell? ⟨(ad.add (k * 3)).block, (ad.add (k * 3)).off + 1, none⟩ = some (.int .i64 p.2.1) ∧ w.cell? ⟨(ad.add (k * 3)).block, (ad.add (k * 3)).off + 2, none⟩ = some (.int .i64 p.2.2) := by
  have e : ∀ j, 0 < j → ad.add (k * 3 + j) = ⟨(ad.add (k * 3)).block, (ad.add (k * 3)).off + j, none⟩ := fun j hj => by
    unfold Addr.add
    by_cases g : k * 3 = 0
    · rw [if_neg (by omega), if_pos g, g, Nat.zero_add]
    · rw [if_neg (by omega), if_neg g, Nat.add_assoc]
  exact ⟨h.c0, (by rw [← e 1 (by decide)]; exact h.c1), (by rw [← e 2 (by decide)]; exact h.c2)⟩
theorem Cel.zero {w : World} {ad : Addr} {p : Pul} (h : Cel w ad 0 p) :
    w.cell? ad = some (.int .i64 p.1) ∧ w.cell? ⟨ad.block, ad.off + 1, none⟩ = some (.int .i64 p.2.1) ∧ w.cell? ⟨ad.block, ad.off + 2, none⟩ = some (.int .i64 p.2.2) := by
  have e : ad.add 0 = ad := by unfold Addr.add; rw [if_pos rfl]
  have := h.spelt
  rwa [Nat.zero_mul, e] at this
/-- Block b holds the pulse p. -/
structure Pl (w : World) (b : Nat) (p : Pul) : Prop where
  c0 : w.cell? ⟨b, 0, none⟩ = some (.int .i64 p.1)
  c1 : w.cell? ⟨b, 1, none⟩ = some (.int .i64 p.2.1)
  c2 : w.cell? ⟨b, 2, none⟩ = some (.int .i64 p.2.2)
  lt : b < w.heap.size
theorem Pl.below {w w' : World} {b : Nat} {p : Pul} (h : Pl w b p) (k : Below w.heap.size w w') : Pl w' b p :=
  ⟨(k.cell (p := ⟨b, 0, none⟩) h.lt).trans h.c0, (k.cell (p := ⟨b, 1, none⟩) h.lt).trans h.c1, (k.cell (p := ⟨b, 2, none⟩) h.lt).trans h.c2, Nat.lt_of_lt_of_le h.lt k.size⟩
theorem Pl.new {w : World} {p : Pul} {T : TypeId} (b : Nat) (hb : b = w.heap.size) : Pl (w.alloc (.cells #[.int .i64 p.1, .int .i64 p.2.1, .int .i64 p.2.2] T)) b p := by
  subst hb; exact ⟨by rw [cell_new]; rfl, by rw [cell_new]; rfl, by rw [cell_new]; rfl, by simp⟩
theorem Pl.alloc {w : World} {b : Nat} {p : Pul} (h : Pl w b p) (o : Obj) : Pl (w.alloc o) b p := h.below ((Below.refl _ _).alloc (Nat.le_refl _) _)
theorem Pl.drewN {w : World} {b : Nat} {p : Pul} (h : Pl w b p) (n : Nat) : Pl (w.drewN n) b p := ⟨h.c0, h.c1, h.c2, h.lt⟩
theorem Pl.grown {w w' : World} {b : Nat} {p : Pul} {row : Option Nat} (h : Pl w b p) (g : w.grownBy w' row) (hn : row ≠ some b) : Pl w' b p :=
  ⟨g.cell h.c0 (fun e => hn e.symm), g.cell h.c1 (fun e => hn e.symm), g.cell h.c2 (fun e => hn e.symm), Nat.lt_of_lt_of_le h.lt g.size⟩
theorem Pl.put3 {w : World} {b : Nat} {p : Pul} {u v z : Value} (h0 : w.cell? ⟨b, 0, none⟩ = some u) (h1 : w.cell? ⟨b, 1, none⟩ = some v) (h2 : w.cell? ⟨b, 2, none⟩ = some z) (hl : b < w.heap.size) :
    Pl (((w.setCell ⟨b, 0, none⟩ (.int .i64 p.1)).setCell ⟨b, 1, none⟩ (.int .i64 p.2.1)).setCell ⟨b, 2, none⟩ (.int .i64 p.2.2)) b p := by
  have g1 : (w.setCell ⟨b, 0, none⟩ (.int .i64 p.1)).cell? ⟨b, 1, none⟩ = some v := by rw [World.cell?_setCell_other _ _ _ _ (by simp)]; exact h1
  have g2 : ((w.setCell ⟨b, 0, none⟩ (.int .i64 p.1)).setCell ⟨b, 1, none⟩ (.int .i64 p.2.1)).cell? ⟨b, 2, none⟩ = some z := by rw [World.cell?_setCell_other _ _ _ _ (by simp), World.cell?_setCell_other _ _ _ _ (by simp)]; exact h2
  refine ⟨?_, ?_, World.cell?_setCell_same _ _ _ g2, by rw [World.size_setCell, World.size_setCell, World.size_setCell]; exact hl⟩
  · rw [World.cell?_setCell_other _ _ _ _ (by simp), World.cell?_setCell_other _ _ _ _ (by simp)]; exact World.cell?_setCell_same _ _ _ h0
  · rw [World.cell?_setCell_other _ _ _ _ (by simp)]; exact World.cell?_setCell_same _ _ _ g1
/-- The first error of a list, behind a time. -/
def vw (t : Int) : List Pul → Int
  | [] => 0
  | p :: l => if okP p then (if p.2.1 < t then 12 else vw p.2.1 l) else 1
def validR (l : List Pul) : Int := if 4096 < l.length then 3 else vw 0 l
theorem vw_run (t : Int) (l : List Pul) : vw t l = 0 ↔ run t l := by
  induction l generalizing t with
  | nil => exact ⟨fun _ => trivial, fun _ => rfl⟩
  | cons p l ih =>
    have e1 : vw t (p :: l) = if okP p then (if p.2.1 < t then 12 else vw p.2.1 l) else 1 := rfl
    have e2 : run t (p :: l) ↔ okP p ∧ t ≤ p.2.1 ∧ run p.2.1 l := Iff.rfl
    rw [e1, e2]
    by_cases h : okP p
    · rw [if_pos h]
      by_cases g : p.2.1 < t
      · rw [if_pos g]
        exact ⟨fun h => (by cases h), fun h => (by omega)⟩
      · rw [if_neg g, ih]
        exact ⟨fun k => ⟨h, by omega, k⟩, fun k => k.2.2⟩
    · rw [if_neg h]
      exact ⟨fun h => (by cases h), fun k => absurd k.1 h⟩
theorem drop_at {l : List Pul} {k : Nat} (hk : k < l.length) : l.drop k = l.getD k (0, 0, 0) :: l.drop (k + 1) := by
  rw [List.drop_eq_getElem_cons hk, List.getD_eq_getElem?_getD, List.getElem?_eq_getElem hk]; rfl

/-- The slice v of pulses is the call's own. -/
def TOwn (T : TypeId) (w : World) (base : Nat) (v : Value) (l : List Pul) : Prop := Flat T 3 w base v l.length (flatP l)
theorem TOwn.nil {T : TypeId} {w : World} {base : Nat} : TOwn T w base (.slice none 0 0) [] := Flat.nil
theorem TOwn.drewN {T : TypeId} {w : World} {base : Nat} {v : Value} {l : List Pul} (h : TOwn T w base v l) (n : Nat) : TOwn T (w.drewN n) base v l := h
theorem TOwn.alloc {T : TypeId} {w : World} {base : Nat} {v : Value} {l : List Pul} (h : TOwn T w base v l) (o : Obj) : TOwn T (w.alloc o) base v l := Flat.alloc h o
theorem TOwn.below {T : TypeId} {w w' : World} {base : Nat} {v : Value} {l : List Pul} (h : TOwn T w base v l) (b : Below w.heap.size w w') : TOwn T w' base v l := Flat.below h b
theorem TOwn.base {T : TypeId} {w : World} {base base' : Nat} {v : Value} {l : List Pul} (h : TOwn T w base v l) (hb : base' ≤ base) : TOwn T w base' v l := Flat.base h hb
theorem TOwn.kept {T : TypeId} {w w' : World} {base : Nat} {v : Value} {l : List Pul} {row : Option Nat} (h : TOwn T w base v l) (hg : w.grownBy w' row) (hne : v.ownBlock = none ∨ v.ownBlock ≠ row) : TOwn T w' base v l := Flat.kept h hg hne
theorem TOwn.block {T : TypeId} {w : World} {base : Nat} {v : Value} {l : List Pul} (h : TOwn T w base v l) {g : Nat} (hg : v.ownBlock = some g) : base ≤ g ∧ g < w.heap.size := Flat.block h hg
theorem TOwn.app {T : TypeId} {w : World} {base n k : Nat} {v : Value} {l m : List Pul} (h : w.ownsRow base T 3 v (n + k) ((flatP l).map (Value.int .i64) ++ (flatP m).map (Value.int .i64))) (hn : n = l.length) (hk : k = m.length) : TOwn T w base v (l ++ m) := by
  subst hn; subst hk
  unfold TOwn
  rw [List.length_append, flatP_app]
  exact Flat.app h
theorem TOwn.slice {T : TypeId} {w : World} {base : Nat} {v : Value} {l : List Pul} (h : TOwn T w base v l) :
    ∃ A c, v = .slice A l.length c ∧ PRow w A l ∧ l.length ≤ c ∧ (0 < l.length → ∃ g, A = some ⟨g, 0, none⟩ ∧ base ≤ g ∧ g < w.heap.size) := by
  obtain ⟨A, c, e, R, h1, h2, h3⟩ := Flat.slice h
  exact ⟨A, c, e, ⟨R, h2⟩, h1, h3⟩
theorem TOwn.full {T : TypeId} {w : World} {base : Nat} {v : Value} {l : List Pul} (h : TOwn T w base v l) :
    ∃ A c, v = .slice A l.length c ∧ PRow w A l ∧ l.length ≤ c ∧ c ≤ maxLen ∧ (0 < l.length → ∃ g, A = some ⟨g, 0, none⟩ ∧ base ≤ g ∧ g < w.heap.size) := by
  obtain ⟨A, c, rfl, R, h1, h3⟩ := h.slice
  refine ⟨A, c, rfl, R, h1, ?_, h3⟩
  rcases h.2 with ⟨e, _⟩ | ⟨g, cap, cur, e, _, _, _, h5, _⟩
  · injection e with e1 e2 e3; rw [e3]; decide
  · injection e with e1 e2 e3; rw [e3]; exact h5
theorem TOwn.src {T : TypeId} {w : World} {base : Nat} {v : Value} {l : List Pul} (h : TOwn T w base v l) : ∃ A c, v = .slice A l.length c ∧ PRow w A l ∧ l.length ≤ c ∧ c ≤ maxLen ∧ (A = none → l.length = 0 ∧ c = 0) := by
  obtain ⟨A, c, rfl, R, h1, h2, h3⟩ := h.full
  refine ⟨A, c, rfl, R, h1, h2, fun e => ?_⟩
  rcases h.2 with ⟨e2, hn⟩ | ⟨g, cap, cur, e2, _⟩
  · injection e2 with _ _ e3; exact ⟨hn, e3⟩
  · injection e2 with e3 _ _; rw [e] at e3; cases e3
theorem Moves.grown {m : Nat} {a b c : World} {row : Option Nat} (h : Moves m a b) (g : b.grownBy c row) (hr : ∀ k, row = some k → a.heap.size ≤ k) : Moves m a c :=
  ⟨g.os.trans h.os, g.tape.trans h.tape, g.output.trans h.output, Nat.le_trans h.size g.size, fun i hi hm => (g.block i (Nat.lt_of_lt_of_le hi h.size) (fun e => by have := hr i e.symm; omega)).trans (h.block i hi hm)⟩
theorem Flat.moves {e : TypeId} {k m : Nat} {w w' : World} {base : Nat} {v : Value} {n : Nat} {zs : List Int} (h : Flat e k w base v n zs) (b : Moves m w w') (hm : m < base) : Flat e k w' base v n zs := by
  refine ⟨h.1, ?_⟩
  rcases h.2 with g | ⟨g, cap, cur, e1, e2, e3, e4⟩
  · exact Or.inl g
  · exact Or.inr ⟨g, cap, cur, e1, e2, (b.block g (Array.getElem?_eq_some_iff.1 e3).1 (by omega)).trans e3, e4⟩
theorem TOwn.moves {T : TypeId} {m : Nat} {w w' : World} {base : Nat} {v : Value} {l : List Pul} (h : TOwn T w base v l) (b : Moves m w w') (hm : m < base) : TOwn T w' base v l := Flat.moves h b hm
theorem Own.moves {k : IntKind} {e : TypeId} {m : Nat} {w w' : World} {base : Nat} {v : Value} {zs : List Int} (h : Own k e w base v zs) (b : Moves m w w') (hm : m < base) : Own k e w' base v zs := by
  refine ⟨h.1, ?_⟩
  rcases h.2 with g | ⟨g, cap, cur, e1, e2, e3, e4⟩
  · exact Or.inl g
  · exact Or.inr ⟨g, cap, cur, e1, e2, (b.block g (Array.getElem?_eq_some_iff.1 e3).1 (by omega)).trans e3, e4⟩
theorem IsMk.grown {w w' : World} {m N : Nat} {row : Option Nat} (h : IsMk w m N) (g : w.grownBy w' row) (hr : ∀ k, row = some k → m < k) : IsMk w' m N :=
  h.stays ((Below.refl (m + 1) w).grown g h.lt (fun k e => hr k e))
theorem run_snoc {t : Int} {l : List Pul} {p : Pul} (h : run t l) (hp : okP p) (h1 : t ≤ p.2.1) (h2 : ∀ q ∈ l, q.2.1 ≤ p.2.1) : run t (l ++ [p]) := by
  induction l generalizing t with
  | nil => exact ⟨hp, h1, trivial⟩
  | cons q l ih => exact ⟨h.1, h.2.1, ih h.2.2 (h2 q (List.mem_cons_self ..)) (fun r hr => h2 r (List.mem_cons_of_mem _ hr))⟩
/-- The maker of a list that came in. -/
theorem mk_row {w : World} {A : Option Addr} {c : Nat} {l : List Int} {T : TypeId} (h : Row .i64 w w.heap.size A l) (hm : l.length ≤ maxLen) (hw : ∀ n ∈ l, (Lit.int .i64 n).wf = true) : IsMk (w.alloc (.cells #[.slice A l.length c, .int .i64 0] T)) w.heap.size 0 := by
  have e : (w.alloc (.cells #[.slice A l.length c, .int .i64 0] T)).heap[w.heap.size]? = some (.cells #[.slice A l.length c, .int .i64 0] T) := by
    show (w.heap.push _)[w.heap.size]? = _
    rw [Array.getElem?_push, if_pos rfl]
  refine ⟨by simp, ⟨0, Nat.le_refl _, by rw [cell_new]; rfl⟩, ?_, A, l.length, c, by rw [cell_new]; rfl, hm, ?_⟩
  · unfold World.frozen?; rw [e]; rfl
  · rcases Nat.eq_zero_or_pos l.length with h0 | h0
    · exact Or.inl h0
    · obtain ⟨ad, rfl, hb, h1⟩ := h 0 h0
      obtain ⟨b, off, spot⟩ := ad
      have hs : spot = none := by simpa [Addr.add] using World.cell?_spot h1
      subst hs
      refine Or.inr ⟨b, off, rfl, hb, fun i hi => ⟨l.getD i 0, ?_, bounds_i64 (hw _ (getD_mem hi))⟩⟩
      obtain ⟨ad', e', _, hc⟩ := h i hi
      have ea : (⟨b, off, none⟩ : Addr) = ad' := by injection e'
      subst ea
      rw [((Below.refl w.heap.size w).alloc (Nat.le_refl _) _).cell (p := ⟨b, off + i, none⟩) hb]
      by_cases i0 : i = 0
      · subst i0; simpa [Addr.add] using hc
      · simpa [Addr.add, i0] using hc
end Go.Proofs.Ytbnlaopmmgoalaa
