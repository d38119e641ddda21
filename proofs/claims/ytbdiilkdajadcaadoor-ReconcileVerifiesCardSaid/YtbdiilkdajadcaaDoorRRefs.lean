/-
  Stage 8: what the laws call of the reference, for short lists; two tables that prove the same.
-/
import Derived.Test.YtbdiilkdajadcaaDoorRLaw
import Derived.Test.YtbdiilkdajadcaaDoorRLsts
import Derived.Test.YtbdiilkdajadcaaDoorRRali
import Derived.Test.YtbdiilkdajadcaaDoorRRpot
import Derived.Test.YtbdiilkdajadcaaDoorRRcos
set_option linter.unusedSimpArgs false
set_option linter.unusedVariables false
namespace Go.Proofs.YtbdiilkdajadcaaDoor
open Go.RowKit

theorem rali_sm {a b : List Int} {A B : Option Addr} {n m ca cb : Nat} {w : World} (ha : Lst w A n ca a) (hb : Lst w B m cb b) :
    Calls Tryd.prog 15 #[.slice A n ca, .slice B m cb] w fun e w' => (∃ v, e = .returned (.tuple #[v, .int .i64 (cst a b 0 0), .int .i64 0]) ∧ Own .i64 3 w' w.heap.size v (scr a b)) ∧ Below w.heap.size w w' := by
  obtain ⟨rfl, a1, a2, a3⟩ := ha
  obtain ⟨rfl, b1, b2, b3⟩ := hb
  have := rali_any a b A B ca cb w (by omega) (by omega) a2 b2
  rwa [show aliR a b = (scr a b, cst a b 0 0, 0) from if_neg (lng_no a1 b1)] at this
theorem rpot_sm {a b : List Int} {A B : Option Addr} {n m ca cb : Nat} {w : World} (ha : Lst w A n ca a) (hb : Lst w B m cb b) :
    Calls Tryd.prog 16 #[.slice A n ca, .slice B m cb] w fun e w' => (∃ g k c, e = .returned (.tuple #[.slice (some ⟨g, 0, none⟩) k c, .int .i64 0]) ∧ PotT a b w' w.heap.size g k c) ∧ Below w.heap.size w w' := by
  obtain ⟨rfl, a1, a2, a3⟩ := ha
  obtain ⟨rfl, b1, b2, b3⟩ := hb
  refine (rpot_any a b A B ca cb w (by omega) (by omega) a2 b2).mono ?_
  rintro e w' ⟨h, hb⟩
  rw [if_neg (lng_no a1 b1)] at h
  obtain ⟨g, c, rb, rc, T, rfl, hc, hT, hP⟩ := h
  exact ⟨⟨g, _, c, rfl, rfl, hc, rb, rc, T, hT, hP⟩, hb⟩
theorem cos_lg {a b es : List Int} {A B E : Option Addr} {n m ca cb ce : Nat} {w : World} (hK : Knd w) (ha : Lst w A n ca a) (hb : Lst w B m cb b) (he : Row .i64 w w.heap.size E es) (hl : es.length ≤ maxLen) :
    Calls Tryd.prog 21 #[.slice A n ca, .slice B m cb, .slice E es.length ce] w fun e w' => e = .returned (R2 (cosR a b es)) ∧ Below w.heap.size w w' := by
  obtain ⟨rfl, a1, a2, a3⟩ := ha
  obtain ⟨rfl, b1, b2, b3⟩ := hb
  exact cos_any a b es A B E ca cb ce w hK (by omega) (by omega) hl a2 b2 he a3 b3
theorem rcos_lg {a b es : List Int} {A B E : Option Addr} {n m ca cb ce : Nat} {w : World} (ha : Lst w A n ca a) (hb : Lst w B m cb b) (he : Row .i64 w w.heap.size E es) (hl : es.length ≤ maxLen) :
    Calls Tryd.prog 22 #[.slice A n ca, .slice B m cb, .slice E es.length ce] w fun e w' => e = .returned (R2 (cosR a b es)) ∧ Below w.heap.size w w' := by
  obtain ⟨rfl, a1, a2, a3⟩ := ha
  obtain ⟨rfl, b1, b2, b3⟩ := hb
  exact rcos_any a b es A B E ca cb ce w (by omega) (by omega) hl a2 b2 he
theorem pots_same {a b : List Int} {w : World} {base base' g g' k k' c c' : Nat} (h : PotT a b w base g k c) (h' : PotT a b w base' g' k' c') (ha : a.length ≤ 96) :
    Calls Tryd.prog 18 #[.slice (some ⟨g, 0, none⟩) k c, .slice (some ⟨g', 0, none⟩) k' c'] w fun e w' => e = .returned (.bool true) ∧ ∃ n, w' = w.drewN n := by
  obtain ⟨rfl, _, rb, rc, T, hT, hP⟩ := h
  obtain ⟨rfl, _, rb', rc', U, hU, hQ⟩ := h'
  have e : tabL U (a.length + 1) (b.length + 1) = tabL T (a.length + 1) (b.length + 1) := rowL_congr fun i hi => rowL_congr fun j hj => hQ.unique hP _ i j rfl (by omega) (by omega)
  have p := hU.pp
  rw [e] at p
  exact lsts_same _ _ _ _ c c' w (tabL_len _ _ _).symm (by rw [tabL_len]; unfold maxLen; omega) hT.pp p
theorem ints_same2 {zs : List Int} {A A' : Option Addr} {c c' : Nat} {w : World} (h : Row .i64 w w.heap.size A zs) (h' : Row .i64 w w.heap.size A' zs) (hl : zs.length ≤ 1000000) :
    Calls Tryd.prog 17 #[.slice A zs.length c, .slice A' zs.length c'] w fun e w' => e = .returned (.bool true) ∧ ∃ n, w' = w.drewN n := by
  have := ints_any zs zs A A' _ _ c c' w rfl rfl h h' (by unfold maxLen; omega) (by unfold maxLen; omega)
  rwa [decide_eq_true rfl] at this
end Go.Proofs.YtbdiilkdajadcaaDoor
