/-
  Stage 7, plain: patterns of which the first is a wagon with one axle; lists that make has laid.
-/
import Derived.Test.YtgiodpepjajlmaaWPat
import Derived.Test.YtgiodpepjajlmaaWSane
import Derived.Lib.AppendZerosOnto
set_option linter.unusedSimpArgs false
set_option linter.unusedVariables false
namespace Go.Proofs.Ytgiodpepjajlmaa
open Go.RowKit

theorem stK_zero {d : List Int} {ps : List (List Int)} {tol : Int} {T : List Cel3} (h0 : ps.getD 0 [] = []) (hT : ∀ j z, T.getD j none = some z → 0 ≤ z.1) (hz : ∃ y, T.getD 0 none = some (0, y)) (k : Nat) : stK d ps tol T (k + 1) = some (0, 0) := by
  obtain ⟨y, hy⟩ := hz
  induction k with
  | zero =>
    have := stK_first (d := d) (ps := ps) (tol := tol) (T := T) (k := 0) (c := 0) (x := (0, y)) (by rw [h0]; exact cmpV_nil) (by rw [h0]; exact hy) rfl
    exact this
  | succ k ih =>
    cases hc : cmpV d (ps.getD (k + 1) []) tol with
    | none => rw [stK_nofit hc]; exact ih
    | some c =>
      cases hx : T.getD (ps.getD (k + 1) []).length none with
      | none => rw [stK_norest hc hx]; exact ih
      | some x =>
        have h1 := (cmpV_bd hc).2.1
        have h2 := hT _ _ hx
        rw [stK_not hc hx ih (by show ¬ c + x.1 < 0; omega)]
theorem tb_zero {d : List Int} {ps : List (List Int)} {tol : Int} (h0 : ps.getD 0 [] = []) (hp : 0 < ps.length) (m : Nat) : ∀ i, d.length + 1 ≤ i + m → i ≤ d.length + 1 → ∃ y, (tb ps tol d).getD i none = some (0, y) ∧ (i ≤ d.length → y = 0) := by
  induction m with
  | zero =>
    intro i h1 h2
    obtain rfl : i = d.length + 1 := by omega
    exact ⟨0, tb_end ps tol d, fun _ => rfl⟩
  | succ m ih =>
    intro i h1 h2
    by_cases e : i = d.length + 1
    · subst e; exact ⟨0, tb_end ps tol d, fun _ => rfl⟩
    · refine ⟨0, ?_, fun _ => rfl⟩
      rw [tb_at ps tol d i (by omega)]
      obtain ⟨y, hy, _⟩ := ih (i + 1) (by omega) (by omega)
      obtain ⟨q, hq⟩ : ∃ q, ps.length = q + 1 := ⟨ps.length - 1, by omega⟩
      unfold stp
      rw [hq]
      refine stK_zero h0 (fun j z hz => ?_) ⟨y, by rw [getD_drop]; exact hy⟩ q
      rw [getD_drop] at hz
      by_cases hj : i + 1 + j ≤ d.length + 1
      · obtain ⟨y', hy', _⟩ := ih (i + 1 + j) (by omega) hj
        rw [hy'] at hz
        injection hz with hz
        subst hz
        exact Int.le_refl _
      · rw [tb_none _ (by omega)] at hz; cases hz
theorem pth_zero {d : List Int} {ps : List (List Int)} {tol : Int} (h0 : ps.getD 0 [] = []) (hp : 0 < ps.length) (m : Nat) : ∀ i, d.length + 1 = i + m → (pth ps (tb ps tol d) (d.length + 1) (d.length + 1) i).length = m := by
  induction m with
  | zero =>
    intro i h1
    rw [pth_end (by omega)]; rfl
  | succ m ih =>
    intro i h1
    obtain ⟨y, hy, hy0⟩ := tb_zero (tol := tol) (d := d) h0 hp (m + 1) i (by omega) (by omega)
    rw [hy0 (by omega)] at hy
    rw [pth_step (by omega) hy]
    have e : (ps.getD ((0 : Int), (0 : Nat)).2 []).length = 0 := by show (ps.getD 0 []).length = 0; rw [h0]; rfl
    rw [e, List.length_cons, ih (i + 0 + 1) (by omega)]
/-- What Recognize answers to them. -/
theorem lim_ok {d : List Int} {ps : List (List Int)} {tol : Int} (h0 : ps.getD 0 [] = []) (hp : 0 < ps.length) (he : recErr d ps tol = 0) : ∃ P, recR d ps tol = (P, 0, 0) ∧ P.length = d.length + 1 := by
  obtain ⟨y, hy, _⟩ := tb_zero (tol := tol) (d := d) h0 hp (d.length + 1) 0 (by omega) (by omega)
  refine ⟨_, recR_some he hy, ?_⟩
  rw [List.length_map]
  exact pth_zero h0 hp (d.length + 1) 0 (by omega)
theorem lim_err {d : List Int} {ps : List (List Int)} {tol : Int} (h1 : d.length ≤ 768) (h2 : ps.length ≤ 16) (h3 : ∀ p ∈ ps, p.length ≤ 5 ∧ okD p = true) (h4 : okD d = true) (h5 : 0 ≤ tol ∧ tol ≤ 10000) : recErr d ps tol = 0 := by
  unfold recErr
  rw [if_neg, if_pos]
  · exact ⟨h4, h5, List.all_eq_true.2 fun p hpp => (h3 p hpp).2⟩
  · rintro (g | g | g)
    · omega
    · omega
    · obtain ⟨p, hpp, g⟩ := List.any_eq_true.1 g
      have := (h3 p hpp).1
      have := of_decide_eq_true g
      omega
theorem lim_rng {d : List Int} {ps : List (List Int)} {tol : Int} (h1 : d.length ≤ 768) (h2 : ps.length ≤ 16) (h3 : ∀ p ∈ ps, p.length ≤ 5) (h : okD d = false ∨ ¬ (0 ≤ tol ∧ tol ≤ 10000)) : recErr d ps tol = 2 := by
  unfold recErr
  rw [if_neg, if_neg]
  · rintro ⟨g1, g2, _⟩
    rcases h with h | h
    · rw [h] at g1; cases g1
    · exact h g2
  · rintro (g | g | g)
    · omega
    · omega
    · obtain ⟨p, hpp, g⟩ := List.any_eq_true.1 g
      have := h3 p hpp
      have := of_decide_eq_true g
      omega
theorem okD_rep (n : Nat) (x : Int) (h : 1 ≤ x ∧ x ≤ 10000) : okD (List.replicate n x) = true := List.all_eq_true.2 fun z hz => decide_eq_true (by
  obtain rfl := (List.mem_replicate.1 hz).2; exact h)
def partW (x : Int) (n k : Nat) : List Int := List.replicate k x ++ List.replicate (n - k) 0
theorem partW_len (x : Int) (n k : Nat) (h : k ≤ n) : (partW x n k).length = n := by unfold partW; rw [List.length_append, List.length_replicate, List.length_replicate]; omega
theorem partW_set (x : Int) (n k : Nat) (h : k < n) : (partW x n k).set k x = partW x n (k + 1) := by
  unfold partW
  rw [List.set_append_right _ _ (by simp), List.length_replicate, Nat.sub_self]
  obtain ⟨m, hm⟩ : ∃ m, n - k = m + 1 := ⟨n - k - 1, by omega⟩
  rw [hm, show n - (k + 1) = m by omega, List.replicate_succ' (n := k), List.append_assoc]
  rfl
theorem partW_zero (x : Int) (n : Nat) : partW x n 0 = List.replicate n 0 := by unfold partW; simp
theorem partW_full (x : Int) (n : Nat) : partW x n n = List.replicate n x := by unfold partW; rw [Nat.sub_self]; simp
theorem made_one (v : Value) (n : Nat) : madeCells #[v] n = (List.replicate n v).toArray := by
  apply Array.ext'
  refine List.ext_getElem? fun j => ?_
  unfold madeCells
  by_cases h : j < n
  · simp [h, Nat.mod_one]
  · simp [h]
theorem make_intsW (w : World) (X : Nat) (hX : X ≤ 1000) : (Instr.makeSlice 22 (.int .i64 (X : Int)) (.int .i64 (X : Int))).run Try.prog w = .ok (.slice (some ⟨w.heap.size, 0, none⟩) X X) (w.alloc (.cells ((List.replicate X 0).map (Value.int .i64)).toArray 3)) := by
  obtain ⟨i0, hi, hz0, hz1, hz2⟩ := info_parts infoIntW
  have h := run_make (P := Try.prog) w 22 3 i0 (.int .i64 0) Try.underlying22 hi hz0 .i64 .i64 (X : Int) (X : Int) (by omega) (Int.le_refl _) (by rw [hz2]; omega) (by omega)
  rw [hz1, Int.toNat_natCast] at h
  have e : madeCells (Value.int .i64 0).cells (X * 1) = ((List.replicate X 0).map (Value.int .i64)).toArray := by
    rw [Nat.mul_one, List.map_replicate]; exact made_one _ _
  rw [e] at h
  exact h
abbrev nilD : Dsc := (none, 0, 0)
theorem make_lists (w : World) : (Instr.makeSlice 23 (.int .i64 16) (.int .i64 16)).run Try.prog w = .ok (.slice (some ⟨w.heap.size, 0, none⟩) 16 16) (w.alloc (.cells (PR.flat (List.replicate 16 nilD)).toArray 22)) := by
  obtain ⟨i0, hi, hz0, hz1, hz2⟩ := info_parts infoSl
  have h := run_make (P := Try.prog) w 23 22 i0 (.slice none 0 0) Try.underlying23 hi hz0 .i64 .i64 16 16 (by decide) (Int.le_refl _) (by rw [hz2]; decide) (by decide)
  rw [hz1] at h
  have e : madeCells (Value.slice none 0 0).cells (Int.toNat 16 * 1) = (PR.flat (List.replicate 16 nilD)).toArray := by
    have := made_one (.slice none 0 0) 16
    exact this
  rw [e] at h
  exact h
theorem PR.laid (w : World) (base : Nat) (hb : base ≤ w.heap.size) (ds : List Dsc) (n : Nat) (hn : ds.length = n) (hm : n ≤ 1000) : ROwn PR 22 (w.alloc (.cells (PR.flat ds).toArray 22)) base (.slice (some ⟨w.heap.size, 0, none⟩) n n) ds := by
  subst hn
  have hl : (PR.flat ds).length = ds.length * 1 := flatR_len PR ds
  refine ⟨flatR_len PR ds, Or.inr ⟨w.heap.size, ds.length, (PR.flat ds).toArray, rfl, hb, heap_alloc_new w _, Nat.le_refl _, by unfold maxLen; omega, by rw [List.size_toArray]; exact hl, ?_⟩⟩
  show List.take (ds.length * 1) (PR.flat ds) = PR.flat ds
  exact List.take_of_length_le (by omega)
theorem flatP_set (l : List Dsc) (i : Nat) (d : Dsc) : PR.flat (l.set i d) = (PR.flat l).set i (dscV d) := by
  induction l generalizing i with
  | nil => rfl
  | cons y l ih =>
    cases i with
    | zero => rfl
    | succ i =>
      show [dscV y] ++ PR.flat (l.set i d) = ([dscV y] ++ PR.flat l).set (i + 1) (dscV d)
      rw [ih]; rfl
theorem PR.store {w : World} {base g n c : Nat} {ds : List Dsc} (h : ROwn PR 22 w base (.slice (some ⟨g, 0, none⟩) n c) ds) (hn : n = ds.length) (i : Nat) (d : Dsc) : ROwn PR 22 (w.setCell ⟨g, i, none⟩ (dscV d)) base (.slice (some ⟨g, 0, none⟩) n c) (ds.set i d) := by
  subst hn
  have := (World.ownsRow.stored h i (dscV d)).1
  unfold ROwn
  rwa [flatP_set, List.length_set]
theorem PR.cell {w : World} {base g n c : Nat} {ds : List Dsc} (h : ROwn PR 22 w base (.slice (some ⟨g, 0, none⟩) n c) ds) {k : Nat} {d : Dsc} (hk : ds[k]? = some d) : w.cell? ⟨g, k, none⟩ = some (dscV d) := by
  obtain ⟨A, c', e, R⟩ := h.slice
  injection e with e _ _
  subst e
  obtain ⟨ad, e2, C⟩ := R.at_ hk
  injection e2 with e2
  subst e2
  have hc := C.cs 0 (dscV d) rfl
  have e4 : k * PR.m + 0 = k := Nat.mul_one k
  rw [e4, add_own] at hc
  exact hc
/-- Such a list reads as lists, if each of its own does. -/
theorem PR.pp {w : World} {base g n c : Nat} {ds : List Dsc} {ps : List (List Int)} (h : ROwn PR 22 w base (.slice (some ⟨g, 0, none⟩) n c) ds) (hr : ∀ (k : Nat) p, ps[k]? = some p → ∃ d, ds[k]? = some d ∧ d.2.1 = p.length ∧ Row .i64 w w.heap.size d.1 p ∧ p.length ≤ maxLen) : PP w (some ⟨g, 0, none⟩) ps := fun k p hk => by
  obtain ⟨d, h1, h2, h3, h4⟩ := hr k p hk
  exact ⟨_, rfl, (h.block (g := g) rfl).2, d.1, d.2.2, by rw [add_own, ← h2]; exact PR.cell h h1, h3, h4⟩
end Go.Proofs.Ytgiodpepjajlmaa
