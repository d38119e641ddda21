/-
  Stage 11: a list of lists of the call's own whose lists lie apart, and grow.
-/
import Derived.Test.YthedalfokekbkaaJTrW
import Derived.Test.YthedalfokekbkaaJSoP
set_option linter.unusedSimpArgs false
set_option linter.unusedVariables false
namespace Go.Proofs.Ythedalfokekbkaa
open Go.RowKit Go.Lib

structure OL (w : World) (g base : Nat) (vs : List Value) (ts : List (List Int)) : Prop where
  blk : w.heap[g]? = some (.cells vs.toArray 27 (0, 0))
  len : vs.length = ts.length
  own : ∀ (k : Nat) v t, vs[k]? = some v → ts[k]? = some t → Own .i64 3 w base v t
  apt : ∀ (j k : Nat) u v, j ≠ k → vs[j]? = some u → vs[k]? = some v → Apt u v
  gb : g < base
  le : base ≤ w.heap.size
section
variable {w w' : World} {g base : Nat} {vs : List Value} {ts : List (List Int)}
theorem OL.lt (h : OL w g base vs ts) : g < w.heap.size := (Array.getElem?_eq_some_iff.1 h.blk).1
theorem OL.cell (h : OL w g base vs ts) {k : Nat} {v : Value} (hk : vs[k]? = some v) : w.cell? ⟨g, k, none⟩ = some v := by
  unfold World.cell?
  rw [h.blk]
  obtain ⟨h1, h2⟩ := List.getElem?_eq_some_iff.1 hk
  simp [h1, h2]
theorem OL.frozen (h : OL w g base vs ts) (j : Nat) : w.frozen? ⟨g, j, none⟩ = false := frozen_of_row w g j _ 27 h.blk
theorem OL.below (h : OL w g base vs ts) (b : Below w.heap.size w w') : OL w' g base vs ts :=
  ⟨(b.block g h.lt).trans h.blk, h.len, fun k v t h1 h2 => (h.own k v t h1 h2).below b, h.apt, h.gb, Nat.le_trans h.le b.size⟩
theorem OL.moves {m : Nat} (h : OL w g base vs ts) (b : Moves m w w') (hm : m < g) : OL w' g base vs ts :=
  ⟨(b.block g h.lt (by omega)).trans h.blk, h.len, fun k v t h1 h2 => (h.own k v t h1 h2).moves b (by have := h.gb; omega), h.apt, h.gb, Nat.le_trans h.le b.size⟩
theorem OL.drewN (h : OL w g base vs ts) (n : Nat) : OL (w.drewN n) g base vs ts := h.below ⟨rfl, rfl, rfl, Nat.le_refl _, fun _ _ => rfl⟩
theorem own_none {T : TypeId} {v : Value} {t : List Int} (h : Own .i64 T w base v t) (hv : v.ownBlock = none) : v = .slice none 0 0 := by
  rcases h.2 with ⟨e, _⟩ | ⟨g', c, cur, e, _⟩
  · exact e
  · rw [e] at hv; simp [Value.ownBlock] at hv
theorem setCell_grown (w : World) (p : Addr) (u : Value) : w.grownBy (w.setCell p u) (some p.block) :=
  ⟨rfl, rfl, rfl, by rw [World.size_setCell]; exact Nat.le_refl _, fun k hk hn => Below.heap_setCell _ _ _ _ (fun e => hn (by first | exact congrArg some e | exact congrArg some e.symm))⟩
/-- List k grows, and is put back. -/
theorem OL.app {k : Nat} {v v' : Value} {t : List Int} {y : Int} (h : OL w g base vs ts) (hv : vs[k]? = some v) (ht : ts[k]? = some t) (A : AppI base v t y w v' w') :
    w'.cell? ⟨g, k, none⟩ = some v ∧ w'.frozen? ⟨g, k, none⟩ = false ∧ OL (w'.setCell ⟨g, k, none⟩ v') g base (vs.set k v') (ts.set k (t ++ [y])) := by
  obtain ⟨O', hg, g', c, rfl, hlt, hat⟩ := A
  have O := h.own k v t hv ht
  have hvb : ∀ j, v.ownBlock = some j → base ≤ j := fun j hj => (own_block O hj).1
  have hgv : v.ownBlock ≠ some g := fun e => by have := hvb g e; have := h.gb; omega
  have hb : w'.heap[g]? = some (.cells vs.toArray 27 (0, 0)) := (hg.block g h.lt (fun e => hgv e.symm)).trans h.blk
  have hgg : base ≤ g' := by
    rcases hat with e | e
    · exact hvb g' e
    · have := h.le; omega
  have hc : w'.cell? ⟨g, k, none⟩ = some v := by
    unfold World.cell?
    rw [hb]
    obtain ⟨h1, h2⟩ := List.getElem?_eq_some_iff.1 hv
    simp [h1, h2]
  refine ⟨hc, frozen_of_row w' g k _ 27 hb, ⟨?_, by rw [List.length_set, List.length_set]; exact h.len, ?_, ?_, h.gb, by rw [World.size_setCell]; exact Nat.le_trans h.le hg.size⟩⟩
  · rw [heap_setCell_same w' g k _ 27 _ hb]; simp
  · intro j u s hu hs
    rw [List.getElem?_set] at hu hs
    by_cases e : k = j
    · subst e
      rw [if_pos rfl] at hu hs
      split at hu
      · injection hu with hu
        split at hs
        · injection hs with hs
          rw [← hu, ← hs]
          exact O'.kept (setCell_grown w' ⟨g, k, none⟩ _) (Or.inr (fun e => absurd (show g' = g by simpa [Value.ownBlock] using e) (by have := h.gb; omega)))
        · cases hs
      · cases hu
    · rw [if_neg e] at hu hs
      have Oj := h.own j u s hu hs
      have k1 : Own .i64 3 w' base u s := Oj.kept hg (by
        cases hq : u.ownBlock with
        | none => exact Or.inl rfl
        | some q => exact Or.inr (fun e2 => h.apt k j v u e hv hu q e2.symm hq))
      refine k1.kept (setCell_grown w' ⟨g, k, none⟩ _) ?_
      cases hq : u.ownBlock with
      | none => exact Or.inl rfl
      | some q => exact Or.inr (fun e2 => absurd (show q = g by simpa using e2) (by have h1 := (own_block Oj hq).1; have := h.gb; omega))
  · intro i j u s hij hu hs
    have fresh : ∀ q u, q ≠ k → vs[q]? = some u → Apt (.slice (some ⟨g', 0, none⟩) (t.length + 1) c) u := fun q u hq hu b hb1 hb2 => by
      have e : g' = b := by simpa [Value.ownBlock] using hb1
      subst e
      rcases hat with e | e
      · exact h.apt k q v u (Ne.symm hq) hv hu g' e hb2
      · have hul : q < ts.length := by rw [← h.len]; exact (List.getElem?_eq_some_iff.1 hu).1
        have := (own_block (h.own q u _ hu (List.getElem?_eq_getElem hul)) hb2).2
        omega
    rw [List.getElem?_set] at hu hs
    by_cases e1 : k = i
    · subst e1
      rw [if_pos rfl] at hu
      rw [if_neg hij] at hs
      split at hu
      · injection hu with hu
        rw [← hu]; exact fresh j s (Ne.symm hij) hs
      · cases hu
    · rw [if_neg e1] at hu
      by_cases e2 : k = j
      · subst e2
        rw [if_pos rfl] at hs
        split at hs
        · injection hs with hs
          rw [← hs]; exact (fresh i u hij hu).symm
        · cases hs
      · rw [if_neg e2] at hs
        exact h.apt i j u s hij hu hs
/-- A number of list k is written. -/
theorem OL.store {k b n c : Nat} {t : List Int} (h : OL w g base vs ts) (hv : vs[k]? = some (.slice (some ⟨b, 0, none⟩) n c)) (ht : ts[k]? = some t) (hn : n = t.length) (j : Nat) (x : Int) :
    OL (w.setCell ⟨b, j, none⟩ (.int .i64 x)) g base vs (ts.set k (t.set j x)) := by
  have O := h.own k _ t hv ht
  have hb := own_block O (g := b) rfl
  have hkl : k < ts.length := (List.getElem?_eq_some_iff.1 ht).1
  refine ⟨(Below.heap_setCell _ _ _ _ (by have := h.gb; show g ≠ b; omega)).trans h.blk, by rw [List.length_set]; exact h.len, ?_, h.apt, h.gb, by rw [World.size_setCell]; exact h.le⟩
  intro q u s hu hs
  rw [List.getElem?_set] at hs
  by_cases e : k = q
  · subst e
    rw [if_pos rfl, if_pos hkl] at hs
    injection hs with hs
    rw [hu] at hv
    injection hv with hv
    rw [hv, ← hs]
    exact O.store hn j x
  · rw [if_neg e] at hs
    refine (h.own q u s hu hs).kept (setCell_grown w ⟨b, j, none⟩ _) ?_
    cases hq : u.ownBlock with
    | none => exact Or.inl rfl
    | some q' => exact Or.inr (fun e2 => h.apt k q _ u e hv hu b rfl (by rw [hq]; exact e2))
theorem OL.pp (h : OL w g base vs ts) : PP w (some ⟨g, 0, none⟩) ts := fun k p hk => by
  have hkl : k < vs.length := by rw [h.len]; exact (List.getElem?_eq_some_iff.1 hk).1
  have hv := List.getElem?_eq_getElem hkl
  have O := h.own k _ p hv hk
  obtain ⟨A, c, e, R, _, hm, _⟩ := O.slice
  refine ⟨_, rfl, h.lt, A, c, ?_, R, hm⟩
  rw [add_own, ← e]
  exact h.cell hv
end
theorem OL.new (w : World) : OL (w.alloc (.cells #[.slice none 0 0, .slice none 0 0, .slice none 0 0] 27)) w.heap.size (w.heap.size + 1) [.slice none 0 0, .slice none 0 0, .slice none 0 0] [[], [], []] := by
  refine ⟨heap_alloc_new w _, rfl, fun k v t hv ht => ?_, fun j k u v _ hu hv => ?_, Nat.lt_succ_self _, by simp⟩
  · match k with
    | 0 => injection hv with hv; injection ht with ht; subst hv; subst ht; exact Own.nil
    | 1 => injection hv with hv; injection ht with ht; subst hv; subst ht; exact Own.nil
    | 2 => injection hv with hv; injection ht with ht; subst hv; subst ht; exact Own.nil
    | k + 3 => cases hv
  · intro b hb
    match j with
    | 0 => injection hu with hu; subst hu; cases hb
    | 1 => injection hu with hu; subst hu; cases hb
    | 2 => injection hu with hu; subst hu; cases hb
    | j + 3 => cases hu
/-- The three lists while they are filled. -/
def stT (l : List It) (b i : Nat) : List (List Nat) := [accL l 0 b ++ blkL l 0 b i, accL l 1 b ++ blkL l 1 b i, accL l 2 b ++ blkL l 2 b i]
theorem stT_at (l : List It) (b i : Nat) {t : Nat} (ht : t < 3) : (stT l b i)[t]? = some (accL l t b ++ blkL l t b i) := by
  match t, ht with
  | 0, _ => rfl
  | 1, _ => rfl
  | 2, _ => rfl
theorem stT_no {l : List It} {b i : Nat} (h : blk l i ≠ (b : Int)) : stT l b (i + 1) = stT l b i := by
  unfold stT
  rw [blkL_no (fun e => h e.1), blkL_no (fun e => h e.1), blkL_no (fun e => h e.1)]
theorem stT_yes {l : List It} {b i t : Nat} (h : blk l i = (b : Int)) (ht : trn l i = (t : Int)) (h3 : t < 3) : stT l b (i + 1) = (stT l b i).set t ((accL l t b ++ blkL l t b i) ++ [i]) := by
  have no : ∀ s : Nat, s ≠ t → blkL l (s : Int) b (i + 1) = blkL l s b i := fun s hs => blkL_no (fun e => hs (by have := e.2; omega))
  unfold stT
  match t, h3 with
  | 0, _ =>
    have y : blkL l 0 b (i + 1) = blkL l 0 b i ++ [i] := blkL_yes h ht
    have n1 : blkL l 1 b (i + 1) = blkL l 1 b i := no 1 (by decide)
    have n2 : blkL l 2 b (i + 1) = blkL l 2 b i := no 2 (by decide)
    rw [y, n1, n2, ← List.append_assoc]; rfl
  | 1, _ =>
    have y : blkL l 1 b (i + 1) = blkL l 1 b i ++ [i] := blkL_yes h ht
    have n1 : blkL l 0 b (i + 1) = blkL l 0 b i := no 0 (by decide)
    have n2 : blkL l 2 b (i + 1) = blkL l 2 b i := no 2 (by decide)
    rw [y, n1, n2, ← List.append_assoc]; rfl
  | 2, _ =>
    have y : blkL l 2 b (i + 1) = blkL l 2 b i ++ [i] := blkL_yes h ht
    have n1 : blkL l 0 b (i + 1) = blkL l 0 b i := no 0 (by decide)
    have n2 : blkL l 1 b (i + 1) = blkL l 1 b i := no 1 (by decide)
    rw [y, n1, n2, ← List.append_assoc]; rfl
theorem stT_next (l : List It) (b : Nat) : stT l b l.length = stT l (b + 1) 0 := by
  have e : ∀ t : Int, accL l t b ++ blkL l t b l.length = accL l t (b + 1) ++ blkL l t ((b + 1 : Nat) : Int) 0 := fun t => by
    show _ = (accL l t b ++ blkL l t b l.length) ++ []
    rw [List.append_nil]
  unfold stT
  rw [e 0, e 1, e 2]
theorem stT_zero (l : List It) : (stT l 0 0).map toZ = [[], [], []] := rfl
/-- What they are at the end. -/
def finT (l : List It) : List (List Nat) := [accL l 0 32, accL l 1 32, accL l 2 32]
theorem stT_fin (l : List It) : stT l 32 0 = finT l := by
  have e : ∀ t : Int, accL l t 32 ++ blkL l t ((32 : Nat) : Int) 0 = accL l t 32 := fun t => List.append_nil _
  unfold stT finT
  rw [e 0, e 1, e 2]
theorem three_at {α : Type} {a b c p : α} {k : Nat} (h : [a, b, c][k]? = some p) : (k = 0 ∧ a = p) ∨ (k = 1 ∧ b = p) ∨ (k = 2 ∧ c = p) := by
  match k with
  | 0 => exact Or.inl ⟨rfl, Option.some.inj h⟩
  | 1 => exact Or.inr (Or.inl ⟨rfl, Option.some.inj h⟩)
  | 2 => exact Or.inr (Or.inr ⟨rfl, Option.some.inj h⟩)
  | k + 3 => cases h
theorem finT_good (l : List It) (k : Nat) (p : List Nat) (h : (finT l)[k]? = some p) : Good l (k : Int) p := by
  unfold finT at h
  rcases three_at h with ⟨e1, e2⟩ | ⟨e1, e2⟩ | ⟨e1, e2⟩
  · rw [e1, ← e2]; exact accL_good l ((0 : Nat) : Int) 32
  · rw [e1, ← e2]; exact accL_good l ((1 : Nat) : Int) 32
  · rw [e1, ← e2]; exact accL_good l ((2 : Nat) : Int) 32
end Go.Proofs.Ythedalfokekbkaa
