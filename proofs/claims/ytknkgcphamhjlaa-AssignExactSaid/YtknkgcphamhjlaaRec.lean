/-
  Lists of structs of whatever fields: a slice of elements of m cells each, read as one row of values; one that came in, one that the call made and owns; a block that holds one struct.
-/
import Derived.Test.YtknkgcphamhjlaaNum
import Derived.Test.YtknkgcphamhjlaaMaker
set_option linter.unusedSimpArgs false
set_option linter.unusedVariables false
namespace Go.Proofs.Ytknkgcphamhjlaa
open Go.RowKit

/-- How a struct lies in memory: its cells. -/
structure Rec (α : Type) where
  m : Nat
  pos : 0 < m
  cells : α → List Value
  len : ∀ x, (cells x).length = m
  one : ∀ x, ∀ u ∈ cells x, u.oneCell' = true

/-- The slice from A on reads as the values vs, and lies below block B. -/
def VRow (w : World) (B : Nat) (A : Option Addr) (vs : List Value) : Prop :=
  ∀ j u, vs[j]? = some u → ∃ ad : Addr, A = some ad ∧ ad.block < B ∧ w.cell? (ad.add j) = some u
theorem VRow.keep {w w' : World} {B B' : Nat} {A : Option Addr} {vs : List Value} (h : VRow w B A vs) (hc : ∀ p : Addr, p.block < B → w'.cell? p = w.cell? p) (hB : B ≤ B') : VRow w' B' A vs := fun j u hj => by
  obtain ⟨ad, e, hb, hv⟩ := h j u hj
  exact ⟨ad, e, Nat.lt_of_lt_of_le hb hB, (hc _ (by rw [add_block]; exact hb)).trans hv⟩
theorem VRow.below {w w' : World} {A : Option Addr} {vs : List Value} (h : VRow w w.heap.size A vs) (b : Below w.heap.size w w') : VRow w' w'.heap.size A vs := h.keep (fun _ hp => b.cell hp) b.size
theorem VRow.drewN {w : World} {B : Nat} {A : Option Addr} {vs : List Value} (h : VRow w B A vs) (n : Nat) : VRow (w.drewN n) B A vs := h.keep (fun _ _ => rfl) (Nat.le_refl _)
theorem VRow.nil {w : World} {B : Nat} {A : Option Addr} : VRow w B A [] := fun j u hj => by simp at hj
theorem VRow.take {w : World} {B : Nat} {A : Option Addr} {vs : List Value} (h : VRow w B A vs) (n : Nat) : VRow w B A (vs.take n) := fun j u hj => by
  rw [List.getElem?_take] at hj
  split at hj
  · exact h j u hj
  · cases hj
theorem add_add (a : Addr) (n j : Nat) : (a.add n).add j = a.add (n + j) := by
  unfold Addr.add
  by_cases hj : j = 0
  · subst hj; simp
  · by_cases hn : n = 0
    · subst hn; simp [hj]
    · have : n + j ≠ 0 := by omega
      simp [hj, hn, Nat.add_assoc]
theorem VRow.drop {w : World} {B : Nat} {ad : Addr} {vs : List Value} (h : VRow w B (some ad) vs) (n : Nat) : VRow w B (some (ad.add n)) (vs.drop n) := fun j u hj => by
  rw [List.getElem?_drop] at hj
  obtain ⟨ad', e, hb, hv⟩ := h (n + j) u hj
  injection e with e
  subst e
  exact ⟨_, rfl, by rw [add_block]; exact hb, by rw [add_add]; exact hv⟩

section
variable {α : Type} (R : Rec α)
def Rec.flat (R : Rec α) : List α → List Value
  | [] => []
  | x :: l => R.cells x ++ Rec.flat R l
theorem flatR_len (l : List α) : (R.flat l).length = l.length * R.m := by
  induction l with
  | nil => simp [Rec.flat]
  | cons x l ih => unfold Rec.flat; rw [List.length_append, R.len, ih, List.length_cons, Nat.succ_mul]; omega
theorem flatR_app (l k : List α) : R.flat (l ++ k) = R.flat l ++ R.flat k := by
  induction l with
  | nil => rfl
  | cons x l ih =>
    show R.cells x ++ R.flat (l ++ k) = _
    rw [ih, ← List.append_assoc]; rfl
theorem flatR_at {l : List α} {k : Nat} {x : α} (hk : l[k]? = some x) {j : Nat} {u : Value} (hj : (R.cells x)[j]? = some u) : (R.flat l)[k * R.m + j]? = some u := by
  induction l generalizing k with
  | nil => simp at hk
  | cons y l ih =>
    cases k with
    | zero =>
      simp at hk
      subst hk
      show (R.cells y ++ R.flat l)[0 * R.m + j]? = _
      have : j < (R.cells y).length := (List.getElem?_eq_some_iff.1 hj).1
      rw [Nat.zero_mul, Nat.zero_add, List.getElem?_append_left this]
      exact hj
    | succ k =>
      have g := ih (k := k) (by simpa using hk)
      show (R.cells y ++ R.flat l)[(k + 1) * R.m + j]? = _
      rw [List.getElem?_append_right (by rw [R.len, Nat.succ_mul]; omega), R.len]
      rw [show (k + 1) * R.m + j - R.m = k * R.m + j by rw [Nat.succ_mul]; omega]
      exact g
theorem flatR_take (l : List α) (n : Nat) : R.flat (l.take n) = (R.flat l).take (n * R.m) := by
  induction l generalizing n with
  | nil => simp [Rec.flat]
  | cons x l ih =>
    cases n with
    | zero => simp [Rec.flat]
    | succ n =>
      show R.cells x ++ R.flat (l.take n) = (R.cells x ++ R.flat l).take _
      rw [ih, List.take_append, R.len, List.take_of_length_le (l := R.cells x) (by rw [R.len, Nat.succ_mul]; omega), show (n + 1) * R.m - R.m = n * R.m by rw [Nat.succ_mul]; omega]
theorem flatR_drop (l : List α) (n : Nat) : R.flat (l.drop n) = (R.flat l).drop (n * R.m) := by
  induction l generalizing n with
  | nil => simp [Rec.flat]
  | cons x l ih =>
    cases n with
    | zero => simp
    | succ n =>
      show R.flat (l.drop n) = (R.cells x ++ R.flat l).drop _
      rw [ih, List.drop_append, R.len, List.drop_eq_nil_of_le («as» := R.cells x) (by rw [R.len, Nat.succ_mul]; omega), show (n + 1) * R.m - R.m = n * R.m by rw [Nat.succ_mul]; omega, List.nil_append]
theorem flatR_one (l : List α) : ∀ u ∈ R.flat l, u.oneCell' = true := by
  induction l with
  | nil => intro u hu; cases hu
  | cons x l ih =>
    intro u hu
    rcases List.mem_append.1 hu with hu | hu
    · exact R.one x u hu
    · exact ih u hu

/-- The slice from A on reads as the structs l. -/
structure RRow (w : World) (A : Option Addr) (l : List α) : Prop where
  row : VRow w w.heap.size A (R.flat l)
  len : l.length ≤ maxLen
/-- The cells of element k. -/
structure RCel (w : World) (ad : Addr) (k : Nat) (x : α) : Prop where
  cs : ∀ j u, (R.cells x)[j]? = some u → w.cell? (ad.add (k * R.m + j)) = some u
  lt : ad.block < w.heap.size
variable {R}
theorem RRow.below {w w' : World} {A : Option Addr} {l : List α} (h : RRow R w A l) (b : Below w.heap.size w w') : RRow R w' A l := ⟨h.row.below b, h.len⟩
theorem RRow.drewN {w : World} {A : Option Addr} {l : List α} (h : RRow R w A l) (n : Nat) : RRow R (w.drewN n) A l := ⟨h.row.drewN n, h.len⟩
theorem RRow.alloc {w : World} {A : Option Addr} {l : List α} (h : RRow R w A l) (o : Obj) : RRow R (w.alloc o) A l := h.below ((Below.refl _ _).alloc (Nat.le_refl _) _)
theorem RRow.nil {w : World} {A : Option Addr} : RRow R w A [] := ⟨VRow.nil, Nat.zero_le _⟩
theorem RRow.take {w : World} {A : Option Addr} {l : List α} (h : RRow R w A l) (n : Nat) : RRow R w A (l.take n) :=
  ⟨by rw [flatR_take]; exact h.row.take _, by rw [List.length_take]; have := h.len; omega⟩
theorem RRow.drop {w : World} {ad : Addr} {l : List α} (h : RRow R w (some ad) l) (n : Nat) : RRow R w (some (ad.add (n * R.m))) (l.drop n) :=
  ⟨by rw [flatR_drop]; exact h.row.drop _, by rw [List.length_drop]; have := h.len; omega⟩
theorem RRow.at_ {w : World} {A : Option Addr} {l : List α} (h : RRow R w A l) {k : Nat} {x : α} (hk : l[k]? = some x) : ∃ ad : Addr, A = some ad ∧ RCel R w ad k x := by
  have hp := R.pos
  have hlen := R.len x
  obtain ⟨u, hu⟩ : ∃ u, (R.cells x)[0]? = some u := ⟨_, List.getElem?_eq_getElem (by omega)⟩
  obtain ⟨ad, rfl, hb, _⟩ := h.row _ _ (flatR_at R hk hu)
  refine ⟨ad, rfl, fun j u hj => ?_, hb⟩
  obtain ⟨ad', e, _, hv⟩ := h.row _ _ (flatR_at R hk hj)
  injection e with e
  subst e
  exact hv
theorem RCel.below {w w' : World} {ad : Addr} {k : Nat} {x : α} (h : RCel R w ad k x) (b : Below w.heap.size w w') : RCel R w' ad k x :=
  ⟨fun j u hj => (b.cell (by rw [add_block]; exact h.lt)).trans (h.cs j u hj), Nat.lt_of_lt_of_le h.lt b.size⟩
theorem RCel.drewN {w : World} {ad : Addr} {k : Nat} {x : α} (h : RCel R w ad k x) (n : Nat) : RCel R (w.drewN n) ad k x := ⟨h.cs, h.lt⟩
/-- The first cell, and the others, spelt as the walks ask for them. -/
theorem RCel.first {w : World} {ad : Addr} {k : Nat} {x : α} (h : RCel R w ad k x) {u : Value} (hu : (R.cells x)[0]? = some u) : w.cell? (ad.add (k * R.m)) = some u := h.cs 0 u hu
theorem RCel.next {w : World} {ad : Addr} {k : Nat} {x : α} (h : RCel R w ad k x) (j : Nat) (hj : 0 < j) {u : Value} (hu : (R.cells x)[j]? = some u) : w.cell? ⟨(ad.add (k * R.m)).block, (ad.add (k * R.m)).off + j, none⟩ = some u := by
  have e : ad.add (k * R.m + j) = ⟨(ad.add (k * R.m)).block, (ad.add (k * R.m)).off + j, none⟩ := by
    unfold Addr.add
    by_cases g : k * R.m = 0
    · rw [if_neg (by omega), if_pos g, g, Nat.zero_add]
    · rw [if_neg (by omega), if_neg g, Nat.add_assoc]
  rw [← e]
  exact h.cs j u hu

/-- Block b holds the struct x. -/
structure RBlk (R : Rec α) (w : World) (b : Nat) (x : α) : Prop where
  cs : ∀ j u, (R.cells x)[j]? = some u → w.cell? ⟨b, j, none⟩ = some u
  lt : b < w.heap.size
theorem RBlk.below {w w' : World} {b : Nat} {x : α} (h : RBlk R w b x) (k : Below w.heap.size w w') : RBlk R w' b x := ⟨fun j u hj => (k.cell (p := ⟨b, j, none⟩) h.lt).trans (h.cs j u hj), Nat.lt_of_lt_of_le h.lt k.size⟩
theorem RBlk.moves {m : Nat} {w w' : World} {b : Nat} {x : α} (h : RBlk R w b x) (k : Moves m w w') (hm : b ≠ m) : RBlk R w' b x := ⟨fun j u hj => (k.cell (p := ⟨b, j, none⟩) h.lt hm).trans (h.cs j u hj), Nat.lt_of_lt_of_le h.lt k.size⟩
theorem RBlk.alloc {w : World} {b : Nat} {x : α} (h : RBlk R w b x) (o : Obj) : RBlk R (w.alloc o) b x := h.below ((Below.refl _ _).alloc (Nat.le_refl _) _)
theorem RBlk.drewN {w : World} {b : Nat} {x : α} (h : RBlk R w b x) (n : Nat) : RBlk R (w.drewN n) b x := ⟨h.cs, h.lt⟩
theorem RBlk.new {w : World} {x : α} {T : TypeId} (b : Nat) (hb : b = w.heap.size) : RBlk R (w.alloc (.cells (R.cells x).toArray T)) b x := by
  subst hb; exact ⟨fun j u hj => by rw [cell_new]; simpa using hj, by simp⟩
theorem RBlk.grown {w w' : World} {b : Nat} {x : α} {row : Option Nat} (h : RBlk R w b x) (g : w.grownBy w' row) (hn : row ≠ some b) : RBlk R w' b x :=
  ⟨fun j u hj => g.cell (h.cs j u hj) (fun e => hn e.symm), Nat.lt_of_lt_of_le h.lt g.size⟩

/-- The slice v of structs is the call's own. -/
def ROwn (R : Rec α) (T : TypeId) (w : World) (base : Nat) (v : Value) (l : List α) : Prop := w.ownsRow base T R.m v l.length (R.flat l)
theorem ROwn.nil {T : TypeId} {w : World} {base : Nat} : ROwn R T w base (.slice none 0 0) [] := ⟨by simp [Rec.flat], Or.inl ⟨rfl, rfl⟩⟩
theorem ROwn.drewN {T : TypeId} {w : World} {base : Nat} {v : Value} {l : List α} (h : ROwn R T w base v l) (n : Nat) : ROwn R T (w.drewN n) base v l := h
theorem ROwn.alloc {T : TypeId} {w : World} {base : Nat} {v : Value} {l : List α} (h : ROwn R T w base v l) (o : Obj) : ROwn R T (w.alloc o) base v l := World.ownsRow.alloc h o
theorem ROwn.base {T : TypeId} {w : World} {base base' : Nat} {v : Value} {l : List α} (h : ROwn R T w base v l) (hb : base' ≤ base) : ROwn R T w base' v l := by
  refine ⟨h.1, ?_⟩
  rcases h.2 with g | ⟨g, cap, cur, e1, e2, e3⟩
  · exact Or.inl g
  · exact Or.inr ⟨g, cap, cur, e1, Nat.le_trans hb e2, e3⟩
theorem ROwn.below {T : TypeId} {w w' : World} {base : Nat} {v : Value} {l : List α} (h : ROwn R T w base v l) (b : Below w.heap.size w w') : ROwn R T w' base v l := by
  refine ⟨h.1, ?_⟩
  rcases h.2 with g | ⟨g, cap, cur, e1, e2, e3, e4⟩
  · exact Or.inl g
  · exact Or.inr ⟨g, cap, cur, e1, e2, (b.block g (Array.getElem?_eq_some_iff.1 e3).1).trans e3, e4⟩
theorem ROwn.moves {T : TypeId} {m : Nat} {w w' : World} {base : Nat} {v : Value} {l : List α} (h : ROwn R T w base v l) (b : Moves m w w') (hm : m < base) : ROwn R T w' base v l := by
  refine ⟨h.1, ?_⟩
  rcases h.2 with g | ⟨g, cap, cur, e1, e2, e3, e4⟩
  · exact Or.inl g
  · exact Or.inr ⟨g, cap, cur, e1, e2, (b.block g (Array.getElem?_eq_some_iff.1 e3).1 (by omega)).trans e3, e4⟩
theorem ROwn.kept {T : TypeId} {w w' : World} {base : Nat} {v : Value} {l : List α} {row : Option Nat} (h : ROwn R T w base v l) (hg : w.grownBy w' row) (hne : v.ownBlock = none ∨ v.ownBlock ≠ row) : ROwn R T w' base v l := World.ownsRow.kept h hg hne
theorem ROwn.block {T : TypeId} {w : World} {base : Nat} {v : Value} {l : List α} (h : ROwn R T w base v l) {g : Nat} (hg : v.ownBlock = some g) : base ≤ g ∧ g < w.heap.size := by
  rcases h.2 with ⟨rfl, _⟩ | ⟨g', cap, cur, rfl, e2, e3, _⟩
  · simp [Value.ownBlock] at hg
  · simp [Value.ownBlock] at hg
    subst hg
    exact ⟨e2, (Array.getElem?_eq_some_iff.1 e3).1⟩
theorem ROwn.app {T : TypeId} {w : World} {base n k : Nat} {v : Value} {l m : List α} (h : w.ownsRow base T R.m v (n + k) (R.flat l ++ R.flat m)) (hn : n = l.length) (hk : k = m.length) : ROwn R T w base v (l ++ m) := by
  subst hn; subst hk
  unfold ROwn
  rw [List.length_append, flatR_app]
  exact h
/-- What it looks like. -/
theorem ROwn.full {T : TypeId} {w : World} {base : Nat} {v : Value} {l : List α} (h : ROwn R T w base v l) :
    ∃ A c, v = .slice A l.length c ∧ RRow R w A l ∧ l.length ≤ c ∧ c ≤ maxLen ∧ (0 < l.length → ∃ g, A = some ⟨g, 0, none⟩ ∧ base ≤ g ∧ g < w.heap.size) ∧ (A = none → l.length = 0 ∧ c = 0) := by
  rcases h.2 with ⟨rfl, hn⟩ | ⟨g, cap, cur, rfl, e2, e3, e4, e5, e6, e7⟩
  · have : l = [] := List.length_eq_zero_iff.1 hn
    subst this
    exact ⟨none, 0, rfl, RRow.nil, Nat.le_refl _, by decide, fun h => absurd h (by simp), fun _ => ⟨rfl, rfl⟩⟩
  · have hg : g < w.heap.size := (Array.getElem?_eq_some_iff.1 e3).1
    refine ⟨_, cap, rfl, ⟨fun j u hj => ⟨_, rfl, hg, ?_⟩, by omega⟩, e4, e5, fun _ => ⟨g, rfl, e2, hg⟩, fun e => by cases e⟩
    rw [add_own]
    have hlt : j < (R.flat l).length := (List.getElem?_eq_some_iff.1 hj).1
    have := World.ownsRow.cellAt h j (by rw [← flatR_len]; exact hlt)
    rw [this]
    exact hj
theorem ROwn.slice {T : TypeId} {w : World} {base : Nat} {v : Value} {l : List α} (h : ROwn R T w base v l) : ∃ A c, v = .slice A l.length c ∧ RRow R w A l := by
  obtain ⟨A, c, e, H, _⟩ := h.full
  exact ⟨A, c, e, H⟩
theorem ROwn.frozen {T : TypeId} {w : World} {base g n cap : Nat} {l : List α} (h : ROwn R T w base (.slice (some ⟨g, 0, none⟩) n cap) l) (hn : n = l.length) (j : Nat) : w.frozen? ⟨g, j, none⟩ = false := by
  subst hn; exact World.ownsRow.frozenAt h j
/-- The cells of structs that have just been laid. -/
theorem newR {W : World} {T : TypeId} {l : List α} : ∀ j u, (R.flat l)[j]? = some u → (W.alloc (.cells (R.flat l).toArray T)).cell? ((⟨W.heap.size, 0, none⟩ : Addr).add j) = some u := fun j u hj => by
  rw [add_own, cell_new]; simpa using hj
end
theorem Moves.grown {m : Nat} {a b c : World} {row : Option Nat} (h : Moves m a b) (g : b.grownBy c row) (hr : ∀ k, row = some k → a.heap.size ≤ k) : Moves m a c :=
  ⟨g.os.trans h.os, g.tape.trans h.tape, g.output.trans h.output, Nat.le_trans h.size g.size, fun i hi hm => (g.block i (Nat.lt_of_lt_of_le hi h.size) (fun e => by have := hr i e.symm; omega)).trans (h.block i hi hm)⟩
theorem Own.moves {k : IntKind} {e : TypeId} {m : Nat} {w w' : World} {base : Nat} {v : Value} {zs : List Int} (h : Own k e w base v zs) (b : Moves m w w') (hm : m < base) : Own k e w' base v zs := by
  refine ⟨h.1, ?_⟩
  rcases h.2 with g | ⟨g, cap, cur, e1, e2, e3, e4⟩
  · exact Or.inl g
  · exact Or.inr ⟨g, cap, cur, e1, e2, (b.block g (Array.getElem?_eq_some_iff.1 e3).1 (by omega)).trans e3, e4⟩
theorem IsMk.grown {w w' : World} {m N : Nat} {row : Option Nat} (h : IsMk w m N) (g : w.grownBy w' row) (hr : ∀ k, row = some k → m < k) : IsMk w' m N :=
  h.stays ((Below.refl (m + 1) w).grown g h.lt (fun k e => hr k e))
theorem getD_mem {zs : List Int} {k : Nat} (hk : k < zs.length) : zs.getD k 0 ∈ zs := by
  rw [List.getD_eq_getElem?_getD, List.getElem?_eq_getElem hk]; exact List.getElem_mem hk
/-- The maker of a list that came in. -/
theorem mk_row {w : World} {A : Option Addr} {c : Nat} {l : List Int} {T : TypeId} (h : Row .i64 w w.heap.size A l) (hm : l.length ≤ maxLen) (hw : ∀ n ∈ l, (Lit.int .i64 n).wf = true) : IsMk (w.alloc (.cells #[.slice A l.length c, .int .i64 0] T)) w.heap.size 0 := by
  have e : (w.alloc (.cells #[.slice A l.length c, .int .i64 0] T)).heap[w.heap.size]? = some (.cells #[.slice A l.length c, .int .i64 0] T) := by
    show (w.heap.push _)[w.heap.size]? = _
    rw [Array.getElem?_push, if_pos rfl]
  refine ⟨by simp, ⟨0, Nat.le_refl _, by rw [cell_new]; rfl⟩, ?_, A, l.length, c, by rw [cell_new]; rfl, hm, ?_⟩
  · unfold World.frozen?; rw [e]; rfl
  · rcases Nat.eq_zero_or_pos l.length with h0 | h0
    · exact Or.inl h0
    · obtain ⟨ad, rfl, hb, h1⟩ := h 0 h0
      obtain ⟨b, off, spot⟩ := ad
      have hs : spot = none := by simpa [Addr.add] using World.cell?_spot h1
      subst hs
      refine Or.inr ⟨b, off, rfl, hb, fun i hi => ⟨l.getD i 0, ?_, bounds_i64 (hw _ (getD_mem hi))⟩⟩
      obtain ⟨ad', e', _, hc⟩ := h i hi
      have ea : (⟨b, off, none⟩ : Addr) = ad' := by injection e'
      subst ea
      rw [((Below.refl w.heap.size w).alloc (Nat.le_refl _) _).cell (p := ⟨b, off + i, none⟩) hb]
      by_cases i0 : i = 0
      · subst i0; simpa [Addr.add] using hc
      · simpa [Addr.add, i0] using hc
end Go.Proofs.Ytknkgcphamhjlaa
