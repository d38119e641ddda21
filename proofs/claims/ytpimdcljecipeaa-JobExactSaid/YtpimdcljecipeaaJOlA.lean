/-
  Stage 11: a list of lists of the call's own whose lists lie apart, and grow.
-/
import Derived.Test.YtpimdcljecipeaaJGrow
import Derived.Test.YtpimdcljecipeaaJSet
import Derived.Test.YtpimdcljecipeaaWApp
set_option linter.unusedSimpArgs false
set_option linter.unusedVariables false
namespace Go.Proofs.Ytpimdcljecipeaa
open Go.RowKit Go.Lib

structure OL (w : World) (g base : Nat) (vs : List Value) (ts : List (List Int)) : Prop where
  blk : w.heap[g]? = some (.cells vs.toArray 22 (0, 0))
  len : vs.length = ts.length
  own : ∀ (k : Nat) v t, vs[k]? = some v → ts[k]? = some t → Own .i64 3 w base v t
  apt : ∀ (j k : Nat) u v, j ≠ k → vs[j]? = some u → vs[k]? = some v → Apt u v
  gb : g < base
  le : base ≤ w.heap.size
section
variable {w w' : World} {g base : Nat} {vs : List Value} {ts : List (List Int)}
theorem OL.lt (h : OL w g base vs ts) : g < w.heap.size := (Array.getElem?_eq_some_iff.1 h.blk).1
theorem OL.cell (h : OL w g base vs ts) {k : Nat} {v : Value} (hk : vs[k]? = some v) : w.cell? ⟨g, k, none⟩ = some v := by
  unfold World.cell?
  rw [h.blk]
  obtain ⟨h1, h2⟩ := List.getElem?_eq_some_iff.1 hk
  simp [h1, h2]
theorem OL.frozen (h : OL w g base vs ts) (j : Nat) : w.frozen? ⟨g, j, none⟩ = false := frozen_of_row w g j _ 22 h.blk
theorem OL.below (h : OL w g base vs ts) (b : Below w.heap.size w w') : OL w' g base vs ts :=
  ⟨(b.block g h.lt).trans h.blk, h.len, fun k v t h1 h2 => (h.own k v t h1 h2).below b, h.apt, h.gb, Nat.le_trans h.le b.size⟩
theorem OL.moves {m : Nat} (h : OL w g base vs ts) (b : Moves m w w') (hm : m < g) : OL w' g base vs ts :=
  ⟨(b.block g h.lt (by omega)).trans h.blk, h.len, fun k v t h1 h2 => (h.own k v t h1 h2).moves b (by have := h.gb; omega), h.apt, h.gb, Nat.le_trans h.le b.size⟩
theorem OL.drewN (h : OL w g base vs ts) (n : Nat) : OL (w.drewN n) g base vs ts := h.below ⟨rfl, rfl, rfl, Nat.le_refl _, fun _ _ => rfl⟩
theorem own_none {T : TypeId} {v : Value} {t : List Int} (h : Own .i64 T w base v t) (hv : v.ownBlock = none) : v = .slice none 0 0 := by
  rcases h.2 with ⟨e, _⟩ | ⟨g', c, cur, e, _⟩
  · exact e
  · rw [e] at hv; simp [Value.ownBlock] at hv
theorem setCell_grown (w : World) (p : Addr) (u : Value) : w.grownBy (w.setCell p u) (some p.block) :=
  ⟨rfl, rfl, rfl, by rw [World.size_setCell]; exact Nat.le_refl _, fun k hk hn => Below.heap_setCell _ _ _ _ (fun e => hn (by first | exact congrArg some e | exact congrArg some e.symm))⟩
/-- List k grows, and is put back. -/
theorem OL.app {k : Nat} {v v' : Value} {t : List Int} {y : Int} (h : OL w g base vs ts) (hv : vs[k]? = some v) (ht : ts[k]? = some t) (A : AppI base v t y w v' w') :
    w'.cell? ⟨g, k, none⟩ = some v ∧ w'.frozen? ⟨g, k, none⟩ = false ∧ OL (w'.setCell ⟨g, k, none⟩ v') g base (vs.set k v') (ts.set k (t ++ [y])) := by
  obtain ⟨O', hg, g', c, rfl, hlt, hat⟩ := A
  have O := h.own k v t hv ht
  have hvb : ∀ j, v.ownBlock = some j → base ≤ j := fun j hj => (own_block O hj).1
  have hgv : v.ownBlock ≠ some g := fun e => by have := hvb g e; have := h.gb; omega
  have hb : w'.heap[g]? = some (.cells vs.toArray 22 (0, 0)) := (hg.block g h.lt (fun e => hgv e.symm)).trans h.blk
  have hgg : base ≤ g' := by
    rcases hat with e | e
    · exact hvb g' e
    · have := h.le; omega
  have hc : w'.cell? ⟨g, k, none⟩ = some v := by
    unfold World.cell?
    rw [hb]
    obtain ⟨h1, h2⟩ := List.getElem?_eq_some_iff.1 hv
    simp [h1, h2]
  refine ⟨hc, frozen_of_row w' g k _ 22 hb, ⟨?_, by rw [List.length_set, List.length_set]; exact h.len, ?_, ?_, h.gb, by rw [World.size_setCell]; exact Nat.le_trans h.le hg.size⟩⟩
  · rw [heap_setCell_same w' g k _ 22 _ hb]; simp
  · intro j u s hu hs
    rw [List.getElem?_set] at hu hs
    by_cases e : k = j
    · subst e
      rw [if_pos rfl] at hu hs
      split at hu
      · injection hu with hu
        split at hs
        · injection hs with hs
          rw [← hu, ← hs]
          exact O'.kept (setCell_grown w' ⟨g, k, none⟩ _) (Or.inr (fun e => absurd (show g' = g by simpa [Value.ownBlock] using e) (by have := h.gb; omega)))
        · cases hs
      · cases hu
    · rw [if_neg e] at hu hs
      have Oj := h.own j u s hu hs
      have k1 : Own .i64 3 w' base u s := Oj.kept hg (by
        cases hq : u.ownBlock with
        | none => exact Or.inl rfl
        | some q => exact Or.inr (fun e2 => h.apt k j v u e hv hu q e2.symm hq))
      refine k1.kept (setCell_grown w' ⟨g, k, none⟩ _) ?_
      cases hq : u.ownBlock with
      | none => exact Or.inl rfl
      | some q => exact Or.inr (fun e2 => absurd (show q = g by simpa using e2) (by have h1 := (own_block Oj hq).1; have := h.gb; omega))
  · intro i j u s hij hu hs
    have fresh : ∀ q u, q ≠ k → vs[q]? = some u → Apt (.slice (some ⟨g', 0, none⟩) (t.length + 1) c) u := fun q u hq hu b hb1 hb2 => by
      have e : g' = b := by simpa [Value.ownBlock] using hb1
      subst e
      rcases hat with e | e
      · exact h.apt k q v u (Ne.symm hq) hv hu g' e hb2
      · have hul : q < ts.length := by rw [← h.len]; exact (List.getElem?_eq_some_iff.1 hu).1
        have := (own_block (h.own q u _ hu (List.getElem?_eq_getElem hul)) hb2).2
        omega
    rw [List.getElem?_set] at hu hs
    by_cases e1 : k = i
    · subst e1
      rw [if_pos rfl] at hu
      rw [if_neg hij] at hs
      split at hu
      · injection hu with hu
        rw [← hu]; exact fresh j s (Ne.symm hij) hs
      · cases hu
    · rw [if_neg e1] at hu
      by_cases e2 : k = j
      · subst e2
        rw [if_pos rfl] at hs
        split at hs
        · injection hs with hs
          rw [← hs]; exact (fresh i u hij hu).symm
        · cases hs
      · rw [if_neg e2] at hs
        exact h.apt i j u s hij hu hs
/-- A number of list k is written. -/
theorem OL.store {k b n c : Nat} {t : List Int} (h : OL w g base vs ts) (hv : vs[k]? = some (.slice (some ⟨b, 0, none⟩) n c)) (ht : ts[k]? = some t) (hn : n = t.length) (j : Nat) (x : Int) :
    OL (w.setCell ⟨b, j, none⟩ (.int .i64 x)) g base vs (ts.set k (t.set j x)) := by
  have O := h.own k _ t hv ht
  have hb := own_block O (g := b) rfl
  have hkl : k < ts.length := (List.getElem?_eq_some_iff.1 ht).1
  refine ⟨(Below.heap_setCell _ _ _ _ (by have := h.gb; show g ≠ b; omega)).trans h.blk, by rw [List.length_set]; exact h.len, ?_, h.apt, h.gb, by rw [World.size_setCell]; exact h.le⟩
  intro q u s hu hs
  rw [List.getElem?_set] at hs
  by_cases e : k = q
  · subst e
    rw [if_pos rfl, if_pos hkl] at hs
    injection hs with hs
    rw [hu] at hv
    injection hv with hv
    rw [hv, ← hs]
    exact O.store hn j x
  · rw [if_neg e] at hs
    refine (h.own q u s hu hs).kept (setCell_grown w ⟨b, j, none⟩ _) ?_
    cases hq : u.ownBlock with
    | none => exact Or.inl rfl
    | some q' => exact Or.inr (fun e2 => h.apt k q _ u e hv hu b rfl (by rw [hq]; exact e2))
theorem OL.pp (h : OL w g base vs ts) : PP w (some ⟨g, 0, none⟩) ts := fun k p hk => by
  have hkl : k < vs.length := by rw [h.len]; exact (List.getElem?_eq_some_iff.1 hk).1
  have hv := List.getElem?_eq_getElem hkl
  have O := h.own k _ p hv hk
  obtain ⟨A, c, e, R, _, hm, _⟩ := O.slice
  refine ⟨_, rfl, h.lt, A, c, ?_, R, hm⟩
  rw [add_own, ← e]
  exact h.cell hv
end
theorem OL.new (w : World) : OL (w.alloc (.cells #[.slice none 0 0, .slice none 0 0, .slice none 0 0] 22)) w.heap.size (w.heap.size + 1) [.slice none 0 0, .slice none 0 0, .slice none 0 0] [[], [], []] := by
  refine ⟨heap_alloc_new w _, rfl, fun k v t hv ht => ?_, fun j k u v _ hu hv => ?_, Nat.lt_succ_self _, by simp⟩
  · match k with
    | 0 => injection hv with hv; injection ht with ht; subst hv; subst ht; exact Own.nil
    | 1 => injection hv with hv; injection ht with ht; subst hv; subst ht; exact Own.nil
    | 2 => injection hv with hv; injection ht with ht; subst hv; subst ht; exact Own.nil
    | k + 3 => cases hv
  · intro b hb
    match j with
    | 0 => injection hu with hu; subst hu; cases hb
    | 1 => injection hu with hu; subst hu; cases hb
    | 2 => injection hu with hu; subst hu; cases hb
    | j + 3 => cases hu
theorem infoSli : (Try.prog.info? 22).map (fun i => (i.zero, i.size, i.bytes)) = some (some (.slice none 0 0), 1, 24) := by kernel_rfl
theorem make_lists (w : World) : (Instr.makeSlice 26 (.int .i64 3) (.int .i64 3)).run Try.prog w = .ok (.slice (some ⟨w.heap.size, 0, none⟩) 3 3) (w.alloc (.cells #[.slice none 0 0, .slice none 0 0, .slice none 0 0] 22)) := by
  obtain ⟨i0, hi, hz0, hz1, hz2⟩ := info_parts infoSli
  have h := run_make (P := Try.prog) w 26 22 i0 (.slice none 0 0) Try.underlying26 hi hz0 .i64 .i64 3 3 (by omega) (Int.le_refl _) (by rw [hz2]; omega) (by omega)
  rw [hz1] at h
  have e : madeCells (Value.slice none 0 0).cells (Int.toNat 3 * 1) = #[.slice none 0 0, .slice none 0 0, .slice none 0 0] := by kernel_rfl
  rw [e] at h
  exact h
theorem OL.store2 {w : World} {g base : Nat} {vs : List Value} {ts : List (List Int)} {k b n c : Nat} {t : List Int} (h : OL w g base vs ts) (hv : vs[k]? = some (.slice (some ⟨b, 0, none⟩) n c)) (ht : ts[k]? = some t) (hn : n = t.length) (i j : Nat) (x y : Int) :
    OL ((w.setCell ⟨b, i, none⟩ (.int .i64 x)).setCell ⟨b, j, none⟩ (.int .i64 y)) g base vs (ts.set k ((t.set i x).set j y)) := by
  have hkl : k < ts.length := (List.getElem?_eq_some_iff.1 ht).1
  have h1 := h.store hv ht hn i x
  have h2 := h1.store hv (t := t.set i x) (by rw [List.getElem?_set, if_pos rfl, if_pos hkl]) (by rw [List.length_set]; exact hn) j y
  rwa [List.set_set] at h2
/-- The cells of list k. -/
theorem OL.num {w : World} {g base : Nat} {vs : List Value} {ts : List (List Int)} {k b n c : Nat} {t : List Int} (h : OL w g base vs ts) (hv : vs[k]? = some (.slice (some ⟨b, 0, none⟩) n c)) (ht : ts[k]? = some t) (hn : n = t.length) :
    (∀ j, j < n → w.cell? ⟨b, j, none⟩ = some (.int .i64 (t.getD j 0))) ∧ (∀ j, w.frozen? ⟨b, j, none⟩ = false) ∧ g < b := by
  have O := h.own k _ t hv ht
  refine ⟨fun j hj => O.cell hn j (by omega), fun j => O.frozen hn j, ?_⟩
  have := (own_block O (g := b) rfl).1
  have := h.gb
  omega
end Go.Proofs.Ytpimdcljecipeaa
