/-
  Stage 8: tables: a list of lists of the call's own, whose rows lie apart.
-/
import Derived.Test.YtbdiilkdajadcaaDoorRSl
import Derived.Test.YtbdiilkdajadcaaDoorSrc
import Derived.Laws.MakeOwn
import Derived.Laws.OwnMore
set_option linter.unusedSimpArgs false
set_option linter.unusedVariables false
namespace Go.Proofs.YtbdiilkdajadcaaDoor
open Go.RowKit

def IR : Rec Int := ⟨1, by decide, fun x => [.int .i64 x], fun _ => rfl, fun x u hu => by
  obtain rfl := List.mem_singleton.1 hu; rfl⟩
def RR : Rec (Int × Int) := ⟨2, by decide, fun x => [.int .i64 x.1, .int .i64 x.2], fun _ => rfl, fun x u hu => by
  rcases List.mem_cons.1 hu with h | h
  · subst h; rfl
  · obtain rfl := List.mem_singleton.1 h; rfl⟩
theorem IR_flat (l : List Int) : IR.flat l = l.map (.int .i64) := by
  induction l with
  | nil => rfl
  | cons x l ih =>
    show [Value.int .i64 x] ++ IR.flat l = _
    rw [ih]; rfl
theorem own_of_IR {T : TypeId} {w : World} {base : Nat} {v : Value} {l : List Int} (h : ROwn IR T w base v l) : Own .i64 T w base v l := by
  have h : w.ownsRow base T 1 v l.length (IR.flat l) := h
  rw [IR_flat] at h; exact h
theorem IR_of_own {T : TypeId} {w : World} {base : Nat} {v : Value} {l : List Int} (h : Own .i64 T w base v l) : ROwn IR T w base v l := by
  have h : w.ownsRow base T 1 v l.length (l.map (.int .i64)) := h
  rw [← IR_flat] at h; exact h
section
variable {α : Type}
def rowL (f : Nat → α) (M : Nat) : List α := (List.range M).map f
theorem rowL_len (f : Nat → α) (M : Nat) : (rowL f M).length = M := by unfold rowL; simp
theorem rowL_at (f : Nat → α) {M j : Nat} (h : j < M) : (rowL f M)[j]? = some (f j) := by unfold rowL; simp [h]
theorem rowL_congr {f g : Nat → α} {M : Nat} (h : ∀ j, j < M → f j = g j) : rowL f M = rowL g M := by
  unfold rowL; exact List.map_congr_left fun j hj => h j (List.mem_range.1 hj)
def upd (T : Nat → Nat → α) (i j : Nat) (v : α) : Nat → Nat → α := fun x y => if x = i ∧ y = j then v else T x y
theorem upd_same (T : Nat → Nat → α) (i j : Nat) (v : α) : upd T i j v i j = v := if_pos ⟨rfl, rfl⟩
theorem upd_other (T : Nat → Nat → α) {i j x y : Nat} (v : α) (h : ¬ (x = i ∧ y = j)) : upd T i j v x y = T x y := if_neg h
theorem rowL_set (T : Nat → Nat → α) (i j M : Nat) (v : α) : rowL (upd T i j v i) M = (rowL (T i) M).set j v := by
  refine List.ext_getElem? fun y => ?_
  by_cases hy : y < M
  · rw [rowL_at _ hy, List.getElem?_set]
    by_cases e : j = y
    · subst e; rw [if_pos rfl, if_pos (by rw [rowL_len]; exact hy), upd_same]
    · rw [if_neg e, rowL_at _ hy, upd_other _ _ (fun h => e h.2.symm)]
  · rw [List.getElem?_eq_none (by rw [rowL_len]; omega), List.getElem?_eq_none (by rw [List.length_set, rowL_len]; omega)]
/-- The table in block g: L rows of M elements; the first k are laid. -/
structure Tab (R : Rec α) (e : TypeId) (w : World) (base g L M k : Nat) (rb rc : Nat → Nat) (T : Nat → Nat → α) : Prop where
  glt : g < w.heap.size
  gb : base ≤ g
  fz : ∀ j, w.frozen? ⟨g, j, none⟩ = false
  out : ∀ i, i < k → w.cell? ⟨g, i, none⟩ = some (.slice (some ⟨rb i, 0, none⟩) M (rc i))
  nil : ∀ i, k ≤ i → i < L → w.cell? ⟨g, i, none⟩ = some (.slice none 0 0)
  row : ∀ i, i < k → ROwn R e w base (.slice (some ⟨rb i, 0, none⟩) M (rc i)) (rowL (T i) M)
  ne : ∀ i, i < k → rb i ≠ g
  inj : ∀ i j, i < k → j < k → rb i = rb j → i = j
variable {R : Rec α} {e : TypeId} {w w' : World} {base g L M k : Nat} {rb rc : Nat → Nat} {T : Nat → Nat → α}
theorem Tab.below (h : Tab R e w base g L M k rb rc T) (b : Below w.heap.size w w') : Tab R e w' base g L M k rb rc T :=
  ⟨Nat.lt_of_lt_of_le h.glt b.size, h.gb, fun j => (b.frozen (p := ⟨g, j, none⟩) h.glt).trans (h.fz j), fun i hi => (b.cell (p := ⟨g, i, none⟩) h.glt).trans (h.out i hi), fun i h1 h2 => (b.cell (p := ⟨g, i, none⟩) h.glt).trans (h.nil i h1 h2), fun i hi => (h.row i hi).below b, h.ne, h.inj⟩
theorem Tab.base' {base' : Nat} (h : Tab R e w base g L M k rb rc T) (hb : base' ≤ base) : Tab R e w base' g L M k rb rc T := ⟨h.glt, Nat.le_trans hb h.gb, h.fz, h.out, h.nil, fun i hi => (h.row i hi).base hb, h.ne, h.inj⟩
theorem Tab.rlt (h : Tab R e w base g L M k rb rc T) {i : Nat} (hi : i < k) : base ≤ rb i ∧ rb i < w.heap.size := (h.row i hi).block (g := rb i) rfl
theorem Tab.congr {U : Nat → Nat → α} (h : Tab R e w base g L M k rb rc T) (hU : ∀ i j, i < k → j < M → T i j = U i j) : Tab R e w base g L M k rb rc U :=
  ⟨h.glt, h.gb, h.fz, h.out, h.nil, fun i hi => by rw [← rowL_congr (f := T i) (fun j hj => hU i j hi hj)]; exact h.row i hi, h.ne, h.inj⟩
/-- What turned one row's block at most, and cells beyond. -/
theorem Tab.grow (h : Tab R e w base g L M k rb rc T) {i : Nat} (hi : i < k) (hg : w.grownBy w' (some (rb i))) {v : Nat → α} (hr : ROwn R e w' base (.slice (some ⟨rb i, 0, none⟩) M (rc i)) (rowL v M)) :
    Tab R e w' base g L M k rb rc (fun x => if x = i then v else T x) := by
  have hb : w'.heap[g]? = w.heap[g]? := hg.block g h.glt (fun e => h.ne i hi (Option.some.inj e).symm)
  have c : ∀ j, w'.cell? ⟨g, j, none⟩ = w.cell? ⟨g, j, none⟩ := fun j => World.cell?_of_block (w := w) hb
  refine ⟨Nat.lt_of_lt_of_le h.glt hg.size, h.gb, fun j => (World.frozen?_of_block (w := w) hb).trans (h.fz j), fun x hx => (c x).trans (h.out x hx), fun x h1 h2 => (c x).trans (h.nil x h1 h2), fun x hx => ?_, h.ne, h.inj⟩
  by_cases ex : x = i
  · subst ex; rw [if_pos rfl]; exact hr
  · rw [if_neg ex]
    exact (h.row x hx).kept hg (Or.inr (fun e => ex (h.inj x i hx hi (Option.some.inj e))))
theorem Tab.frozen (h : Tab R e w base g L M k rb rc T) {i : Nat} (hi : i < k) (j : Nat) : w.frozen? ⟨rb i, j, none⟩ = false := (h.row i hi).frozen (rowL_len _ _).symm j
theorem Tab.cap (h : Tab R e w base g L M k rb rc T) {i : Nat} (hi : i < k) : M ≤ rc i ∧ rc i ≤ maxLen := by
  obtain ⟨A, c, e1, _, h1, h2, _⟩ := (h.row i hi).full
  injection e1 with _ e2 e3
  subst e3
  rw [rowL_len] at h1
  exact ⟨h1, h2⟩
theorem Tab.rcell (h : Tab R e w base g L M k rb rc T) {i j : Nat} (hi : i < k) (hj : j < M) (q : Nat) {u : Value} (hu : (R.cells (T i j))[q]? = some u) : w.cell? ⟨rb i, j * R.m + q, none⟩ = some u := by
  obtain ⟨A, c, e1, H, _⟩ := (h.row i hi).full
  injection e1 with e1 _ _
  subst e1
  obtain ⟨ad, e2, C⟩ := H.at_ (rowL_at (T i) hj)
  injection e2 with e2
  subst e2
  have := C.cs q u hu
  rwa [add_own] at this
end
section
variable {e : TypeId} {w w' : World} {base g L M k : Nat} {rb rc : Nat → Nat} {T : Nat → Nat → Int} {U : Nat → Nat → Int × Int}
theorem Tab.cellI (h : Tab IR e w base g L M k rb rc T) {i j : Nat} (hi : i < k) (hj : j < M) : w.cell? ⟨rb i, j, none⟩ = some (.int .i64 (T i j)) := by
  have := h.rcell hi hj 0 (u := .int .i64 (T i j)) rfl
  rwa [show j * IR.m + 0 = j from Nat.mul_one j] at this
theorem Tab.cellR0 (h : Tab RR e w base g L M k rb rc U) {i j : Nat} (hi : i < k) (hj : j < M) : w.cell? ⟨rb i, j * 2, none⟩ = some (.int .i64 (U i j).1) := h.rcell hi hj 0 rfl
theorem Tab.cellR1 (h : Tab RR e w base g L M k rb rc U) {i j : Nat} (hi : i < k) (hj : j < M) : w.cell? ⟨rb i, j * 2 + 1, none⟩ = some (.int .i64 (U i j).2) := h.rcell hi hj 1 rfl
theorem Tab.setI (h : Tab IR e w base g L M k rb rc T) {i : Nat} (hi : i < k) (j : Nat) (v : Int) : Tab IR e (w.setCell ⟨rb i, j, none⟩ (.int .i64 v)) base g L M k rb rc (upd T i j v) := by
  have h0 : w.ownsRow base e 1 (.slice (some ⟨rb i, 0, none⟩) M (rc i)) M (IR.flat (rowL (T i) M)) := by
    have := h.row i hi; unfold ROwn at this; rwa [rowL_len] at this
  have hs := World.ownsRow.stored h0 j (.int .i64 v)
  have hr : ROwn IR e (w.setCell ⟨rb i, j, none⟩ (.int .i64 v)) base (.slice (some ⟨rb i, 0, none⟩) M (rc i)) (rowL (upd T i j v i) M) := by
    unfold ROwn
    rw [rowL_len, rowL_set, IR_flat, List.map_set, ← IR_flat]
    exact hs.1
  refine (h.grow hi hs.2 hr).congr fun x y _ _ => ?_
  by_cases ex : x = i
  · rw [if_pos ex, ex]
  · rw [if_neg ex, upd_other _ _ (fun q => ex q.1)]
theorem RR_set (l : List (Int × Int)) (j : Nat) (v : Int × Int) : RR.flat (l.set j v) = ((RR.flat l).set (j * 2) (.int .i64 v.1)).set (j * 2 + 1) (.int .i64 v.2) := by
  induction l generalizing j with
  | nil => rfl
  | cons y l ih =>
    cases j with
    | zero => rfl
    | succ j =>
      show [Value.int .i64 y.1, .int .i64 y.2] ++ RR.flat (l.set j v) = (([Value.int .i64 y.1, .int .i64 y.2] ++ RR.flat l).set ((j + 1) * 2) (.int .i64 v.1)).set ((j + 1) * 2 + 1) (.int .i64 v.2)
      rw [ih, show (j + 1) * 2 = j * 2 + 1 + 1 by omega]
      rfl
theorem Tab.setR (h : Tab RR e w base g L M k rb rc U) {i : Nat} (hi : i < k) (j : Nat) (v : Int × Int) : Tab RR e ((w.setCell ⟨rb i, j * 2, none⟩ (.int .i64 v.1)).setCell ⟨rb i, j * 2 + 1, none⟩ (.int .i64 v.2)) base g L M k rb rc (upd U i j v) := by
  have h0 : w.ownsRow base e 2 (.slice (some ⟨rb i, 0, none⟩) M (rc i)) M (RR.flat (rowL (U i) M)) := by
    have := h.row i hi; unfold ROwn at this; rwa [rowL_len] at this
  have hs := World.ownsRow.stored h0 (j * 2) (.int .i64 v.1)
  have hs2 := World.ownsRow.stored hs.1 (j * 2 + 1) (.int .i64 v.2)
  have hg : w.grownBy ((w.setCell ⟨rb i, j * 2, none⟩ (.int .i64 v.1)).setCell ⟨rb i, j * 2 + 1, none⟩ (.int .i64 v.2)) (some (rb i)) :=
    ⟨rfl, rfl, rfl, by rw [World.size_setCell, World.size_setCell]; exact Nat.le_refl _, fun k hk hn => by
      rw [Below.heap_setCell _ _ _ _ (fun e => hn (by rw [e])), Below.heap_setCell _ _ _ _ (fun e => hn (by rw [e]))]⟩
  have hr : ROwn RR e ((w.setCell ⟨rb i, j * 2, none⟩ (.int .i64 v.1)).setCell ⟨rb i, j * 2 + 1, none⟩ (.int .i64 v.2)) base (.slice (some ⟨rb i, 0, none⟩) M (rc i)) (rowL (upd U i j v i) M) := by
    unfold ROwn
    rw [rowL_len, rowL_set, RR_set]
    exact hs2.1
  refine (h.grow hi hg hr).congr fun x y _ _ => ?_
  by_cases ex : x = i
  · rw [if_pos ex, ex]
  · rw [if_neg ex, upd_other _ _ (fun q => ex q.1)]
end
section
variable {α : Type} {R : Rec α} {e : TypeId} {w w' : World} {base g L M k : Nat} {rb rc : Nat → Nat} {T : Nat → Nat → α}
/-- A row that has just been laid is put into the table. -/
theorem Tab.put (h : Tab R e w base g L M k rb rc T) (hk : k < L) {b c : Nat} {v : Nat → α} (hb : b ≠ g) (hj : ∀ i, i < k → rb i ≠ b) (hr : ROwn R e w base (.slice (some ⟨b, 0, none⟩) M c) (rowL v M)) :
    Tab R e (w.setCell ⟨g, k, none⟩ (.slice (some ⟨b, 0, none⟩) M c)) base g L M (k + 1) (fun i => if i = k then b else rb i) (fun i => if i = k then c else rc i) (fun i => if i = k then v else T i) := by
  have gs : w.grownBy (w.setCell ⟨g, k, none⟩ (.slice (some ⟨b, 0, none⟩) M c)) (some g) := ⟨rfl, rfl, rfl, by rw [World.size_setCell]; exact Nat.le_refl _, fun j hj hn => Below.heap_setCell _ _ _ _ (fun e => hn (by rw [e]))⟩
  have no : ∀ {o q : Nat}, o ≠ q → (⟨g, q, none⟩ : Addr) ≠ ⟨g, o, none⟩ := fun h e => h (congrArg Addr.off e).symm
  refine ⟨by rw [World.size_setCell]; exact h.glt, h.gb, fun j => by rw [World.frozen?_setCell]; exact h.fz j, fun i hi => ?_, fun i h1 h2 => ?_, fun i hi => ?_, fun i hi => ?_, fun i j hi hj' => ?_⟩
  · by_cases ei : i = k
    · subst ei
      rw [if_pos rfl, if_pos rfl]
      exact World.cell?_setCell_same _ _ _ (h.nil i (Nat.le_refl _) hk)
    · rw [if_neg ei, if_neg ei, World.cell?_setCell_other _ _ _ _ (no ei)]
      exact h.out i (by omega)
  · rw [World.cell?_setCell_other _ _ _ _ (no (by omega))]
    exact h.nil i (by omega) h2
  · by_cases ei : i = k
    · simp only [ei, if_true]
      exact hr.kept gs (Or.inr (fun e => hb (Option.some.inj e)))
    · simp only [ei, if_false]
      exact (h.row i (by omega)).kept gs (Or.inr (fun e => h.ne i (by omega) (Option.some.inj e)))
  · by_cases ei : i = k
    · simp only [ei, if_true]; exact hb
    · simp only [ei, if_false]; exact h.ne i (by omega)
  · by_cases ei : i = k
    · by_cases ej : j = k
      · intro _; omega
      · simp only [ei, ej, if_true, if_false]
        exact fun e => absurd e.symm (hj j (by omega))
    · by_cases ej : j = k
      · simp only [ei, ej, if_true, if_false]
        exact fun e => absurd e (hj i (by omega))
      · simp only [ei, ej, if_false]
        exact h.inj i j (by omega) (by omega)
end
theorem made_one (v : Value) (n : Nat) : madeCells #[v] n = (List.replicate n v).toArray := by
  apply Array.ext'
  refine List.ext_getElem? fun j => ?_
  unfold madeCells
  by_cases h : j < n
  · simp [h, Nat.mod_one]
  · simp [h]
theorem made_two (v : Value) (n : Nat) : madeCells #[v, v] n = (List.replicate n v).toArray := by
  apply Array.ext'
  refine List.ext_getElem? fun j => ?_
  unfold madeCells
  by_cases h : j < n
  · have h2 : j % 2 = 0 ∨ j % 2 = 1 := by omega
    rcases h2 with h2 | h2 <;> simp [h, h2]
  · simp [h]
end Go.Proofs.YtbdiilkdajadcaaDoor
