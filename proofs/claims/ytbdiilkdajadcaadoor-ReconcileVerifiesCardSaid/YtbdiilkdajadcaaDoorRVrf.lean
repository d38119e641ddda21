/-
  Stage 8: both Verifies answer the same Bool; a table of which one row has grown.
-/
import Derived.Test.YtbdiilkdajadcaaDoorRRefs
import Derived.Test.YtbdiilkdajadcaaDoorRRver
set_option linter.unusedSimpArgs false
set_option linter.unusedVariables false
namespace Go.Proofs.YtbdiilkdajadcaaDoor
open Go.RowKit

/-- What both answer. -/
noncomputable def vB (a b : List Int) (z : Int) (ps : List (List Int)) : Bool := @decide (Ver a b z ps) (Classical.propDecidable _)
theorem VerPost.vB {a b : List Int} {z : Int} {ps : List (List Int)} {w w' : World} {e : Ending} (h : VerPost a b z ps w e w') : e = .returned (.bool (vB a b z ps)) ∧ Below w.heap.size w w' := by
  obtain ⟨⟨r, rfl, hr⟩, hb⟩ := h
  refine ⟨?_, hb⟩
  congr 2
  unfold Go.Proofs.YtbdiilkdajadcaaDoor.vB
  rw [Bool.eq_iff_iff, hr, @decide_eq_true_iff _ (Classical.propDecidable _)]
/-- A table of numbers of 64 bits, wherever it lies. -/
structure Tbl (w : World) (P : Option Addr) (k : Nat) (ps : List (List Int)) : Prop where
  len : k = ps.length
  sml : ps.length ≤ maxLen
  pp : PP w P ps
  wid : Wid ps
theorem Tbl.below {w w' : World} {P : Option Addr} {k : Nat} {ps : List (List Int)} (h : Tbl w P k ps) (b : Below w.heap.size w w') : Tbl w' P k ps := ⟨h.len, h.sml, h.pp.below b, h.wid⟩
theorem ver_tb {a b : List Int} {ps : List (List Int)} {A B P : Option Addr} {n m k ca cb c : Nat} {w : World} (z : Int) (hK : Knd w) (ha : Lst w A n ca a) (hb : Lst w B m cb b) (hp : Tbl w P k ps) :
    Calls Tryd.prog 12 #[.slice A n ca, .slice B m cb, .int .i64 z, .slice P k c] w fun e w' => e = .returned (.bool (vB a b z ps)) ∧ Below w.heap.size w w' := by
  obtain ⟨rfl, a1, a2, a3⟩ := ha
  obtain ⟨rfl, b1, b2, b3⟩ := hb
  obtain ⟨rfl, p1, p2, p3⟩ := hp
  exact (ver_any a b z ps A B P ca cb c w hK (by omega) (by omega) p1 a2 b2 p2 p3 a3 b3).mono fun _ _ h => h.vB
theorem rver_tb {a b : List Int} {ps : List (List Int)} {A B P : Option Addr} {n m k ca cb c : Nat} {w : World} (z : Int) (ha : Lst w A n ca a) (hb : Lst w B m cb b) (hp : Tbl w P k ps) :
    Calls Tryd.prog 23 #[.slice A n ca, .slice B m cb, .int .i64 z, .slice P k c] w fun e w' => e = .returned (.bool (vB a b z ps)) ∧ Below w.heap.size w w' := by
  obtain ⟨rfl, a1, a2, a3⟩ := ha
  obtain ⟨rfl, b1, b2, b3⟩ := hb
  obtain ⟨rfl, p1, p2, p3⟩ := hp
  exact (rver_any a b z ps A B P ca cb c w (by omega) (by omega) p1 a2 b2 p2 p3).mono fun _ _ h => h.vB
/-- A table of the call's own. -/
theorem Tab.tbl {w : World} {base g L M : Nat} {rb rc : Nat → Nat} {T : Nat → Nat → Int} (h : Tab IR 3 w base g L M L rb rc T) (hL : L ≤ 1000) (hT : ∀ x y, x < L → y < M → -1000000 ≤ T x y ∧ T x y ≤ 1000000) : Tbl w (some ⟨g, 0, none⟩) L (tabL T L M) :=
  ⟨(tabL_len _ _ _).symm, by rw [tabL_len]; unfold maxLen; omega, h.pp, tabL_wid hT⟩
/-- The same, when row r has been made anew and is longer by a 0. -/
theorem Tab.tblApp {w : World} {base g L M r cg : Nat} {rb rc : Nat → Nat} {T : Nat → Nat → Int} {v : Value} (h : ∀ i, i < L → i ≠ r → w.cell? ⟨g, i, none⟩ = some (.slice (some ⟨rb i, 0, none⟩) M (rc i)) ∧ Own .i64 3 w base (.slice (some ⟨rb i, 0, none⟩) M (rc i)) (rowL (T i) M))
    (hg : g < w.heap.size) (hr : r < L) (hv : w.cell? ⟨g, r, none⟩ = some v) (O : Own .i64 3 w base v (rowL (T r) M ++ [0])) (hL : L ≤ 1000) (hT : ∀ x y, x < L → y < M → -1000000 ≤ T x y ∧ T x y ≤ 1000000) :
    Tbl w (some ⟨g, 0, none⟩) L ((tabL T L M).set r (rowL (T r) M ++ [0])) := by
  refine ⟨by rw [List.length_set, tabL_len], by rw [List.length_set, tabL_len]; unfold maxLen; omega, fun k p hk => ?_, fun x y => ?_⟩
  · rw [List.getElem?_set] at hk
    split at hk
    · rename_i e
      subst e
      rw [tabL_len, if_pos hr] at hk
      injection hk with hk
      subst hk
      obtain ⟨A, c, rfl, R, _, hm, _⟩ := O.slice
      exact ⟨_, rfl, hg, A, c, by rw [add_own]; exact hv, R, hm⟩
    · rename_i e
      have hkl : k < L := by
        have := (List.getElem?_eq_some_iff.1 hk).1
        rwa [tabL_len] at this
      unfold tabL at hk
      rw [rowL_at _ hkl] at hk
      injection hk with hk
      subst hk
      obtain ⟨h1, h2⟩ := h k hkl (fun q => e q.symm)
      obtain ⟨A, c, e1, R, _, hm, _⟩ := h2.slice
      injection e1 with e1 _ _
      subst e1
      exact ⟨_, rfl, hg, _, rc k, by rw [add_own, rowL_len]; exact h1, R, hm⟩
  · have W := tabL_wid hT x y
    unfold at2 at W ⊢
    by_cases e : x = r
    · subst e
      have e0 : ((tabL T L M).set x (rowL (T x) M ++ [0])).getD x [] = rowL (T x) M ++ [0] := by
        rw [List.getD_eq_getElem?_getD, List.getElem?_set, if_pos rfl, tabL_len, if_pos hr]; rfl
      rw [e0]
      have e1 : (rowL (T x) M ++ [(0 : Int)]).getD y 0 = 0 ∨ (y < M ∧ (rowL (T x) M ++ [(0 : Int)]).getD y 0 = T x y) := by
        by_cases hy : y < M
        · right
          refine ⟨hy, ?_⟩
          rw [List.getD_eq_getElem?_getD, List.getElem?_append_left (by rw [rowL_len]; exact hy), rowL_at _ hy]; rfl
        · left
          by_cases hy2 : y = M
          · rw [List.getD_eq_getElem?_getD, List.getElem?_append_right (by rw [rowL_len]; omega), rowL_len, hy2]; simp
          · rw [List.getD_eq_getElem?_getD, List.getElem?_eq_none (by rw [List.length_append, rowL_len]; simp; omega)]; rfl
      rcases e1 with e1 | ⟨hy, e1⟩
      · rw [e1]; omega
      · rw [e1]
        have := hT x y hr hy
        omega
    · rw [show ((tabL T L M).set r (rowL (T r) M ++ [0])).getD x [] = (tabL T L M).getD x [] by
        rw [List.getD_eq_getElem?_getD, List.getElem?_set, if_neg (fun q => e q.symm), ← List.getD_eq_getElem?_getD]]
      exact W
end Go.Proofs.YtbdiilkdajadcaaDoor
