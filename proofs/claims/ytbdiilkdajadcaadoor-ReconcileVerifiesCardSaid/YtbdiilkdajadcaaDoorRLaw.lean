/-
  Stage 8: what the laws call, for short lists.
-/
import Derived.Test.YtbdiilkdajadcaaDoorRAli
import Derived.Test.YtbdiilkdajadcaaDoorRCost
import Derived.Test.YtbdiilkdajadcaaDoorRPot
import Derived.Test.YtbdiilkdajadcaaDoorRVer
import Derived.Test.YtbdiilkdajadcaaDoorRTpp
import Derived.Test.YtbdiilkdajadcaaDoorRSane
import Derived.Test.YtbdiilkdajadcaaDoorRLists
set_option linter.unusedSimpArgs false
set_option linter.unusedVariables false
namespace Go.Proofs.YtbdiilkdajadcaaDoor
open Go.RowKit

theorem IsRow.capR {k : IntKind} {w : World} {a : Option Addr} {len cap : Nat} {zs : List Int} (h : IsRow k w a len cap zs) : len ≤ cap := by
  rcases h with ⟨_, rfl, rfl, _⟩ | ⟨x, _, h, _⟩
  · exact Nat.le_refl _
  · exact h
/-- A short list that reads so. -/
structure Lst (w : World) (A : Option Addr) (n c : Nat) (l : List Int) : Prop where
  len : n = l.length
  sml : l.length ≤ 96
  row : Row .i64 w w.heap.size A l
  cap : l.length ≤ c
theorem Lst.below {w w' : World} {A : Option Addr} {n c : Nat} {l : List Int} (h : Lst w A n c l) (b : Below w.heap.size w w') : Lst w' A n c l := ⟨h.len, h.sml, h.row.below b, h.cap⟩
theorem Own.lst {e : TypeId} {w : World} {base : Nat} {v : Value} {l : List Int} (h : Own .i64 e w base v l) (hl : l.length ≤ 96) : ∃ A c, v = .slice A l.length c ∧ Lst w A l.length c l := by
  obtain ⟨A, c, e1, R, hc, _⟩ := h.slice
  exact ⟨A, c, e1, rfl, hl, R, hc⟩
theorem lng_no {a b : List Int} (h : a.length ≤ 96) (k : b.length ≤ 96) : ¬ lngP a b := by unfold lngP; omega
theorem scr_len {a b : List Int} : (scr a b).length ≤ a.length + b.length := by
  have : ∀ m i j, (pathF a b m i j).length ≤ m := by
    intro m
    induction m with
    | zero => intro i j; exact Nat.le_refl _
    | succ m ih =>
      intro i j
      unfold pathF
      split
      · have := ih (i + dA (fst a b i j)) (j + dB (fst a b i j)); simp only [List.length_cons]; omega
      · exact Nat.zero_le _
  unfold scr
  rw [List.length_map]
  exact this _ _ _
theorem scr_sml {w : World} {A B : Option Addr} {n m c d : Nat} {a b : List Int} (ha : Lst w A n c a) (hb : Lst w B m d b) : (scr a b).length ≤ 1000000 := Nat.le_trans scr_len (by have := ha.sml; have := hb.sml; omega)
theorem cst_sml {w : World} {A B : Option Addr} {n m c d : Nat} {a b : List Int} (ha : Lst w A n c a) (hb : Lst w B m d b) : 0 ≤ cst a b 0 0 ∧ cst a b 0 0 ≤ 1000 := by
  have := cst_bd (a := a) (b := b) 0 0 (Nat.zero_le _) (Nat.zero_le _)
  have := ha.sml; have := hb.sml
  omega
theorem cst_ex {w : World} {A B : Option Addr} {n m c d : Nat} {a b : List Int} (ha : Lst w A n c a) (hb : Lst w B m d b) : ∃ C, cst a b 0 0 = C ∧ 0 ≤ C ∧ C ≤ 1000 := ⟨_, rfl, cst_sml ha hb⟩
theorem ali_sm {a b : List Int} {A B : Option Addr} {n m ca cb : Nat} {w : World} (hK : Knd w) (ha : Lst w A n ca a) (hb : Lst w B m cb b) :
    Calls Tryd.prog 9 #[.slice A n ca, .slice B m cb] w fun e w' => (∃ v, e = .returned (.tuple #[v, .int .i64 (cst a b 0 0), .int .i64 0]) ∧ Own .i64 3 w' w.heap.size v (scr a b)) ∧ Below w.heap.size w w' := by
  obtain ⟨rfl, a1, a2, a3⟩ := ha
  obtain ⟨rfl, b1, b2, b3⟩ := hb
  have := ali_any a b A B ca cb w hK (by omega) (by omega) a2 b2 a3 b3
  rwa [show aliR a b = (scr a b, cst a b 0 0, 0) from if_neg (lng_no a1 b1)] at this
theorem cos_sm {a b es : List Int} {A B E : Option Addr} {n m k ca cb ce : Nat} {w : World} (hK : Knd w) (ha : Lst w A n ca a) (hb : Lst w B m cb b) (hk : k = es.length) (he : Row .i64 w w.heap.size E es) (hl : es.length ≤ 1000000) :
    Calls Tryd.prog 21 #[.slice A n ca, .slice B m cb, .slice E k ce] w fun e w' => e = .returned (R2 (cosR a b es)) ∧ Below w.heap.size w w' := by
  obtain ⟨rfl, a1, a2, a3⟩ := ha
  obtain ⟨rfl, b1, b2, b3⟩ := hb
  subst hk
  exact cos_any a b es A B E ca cb ce w hK (by omega) (by omega) (by unfold maxLen; omega) a2 b2 he a3 b3
/-- A table that proves the cost. -/
def PotT (a b : List Int) (w : World) (base g n c : Nat) : Prop := n = a.length + 1 ∧ n ≤ c ∧ ∃ rb rc T, Tab IR 3 w base g (a.length + 1) (b.length + 1) (a.length + 1) rb rc T ∧ IsPot a b T
theorem PotT.below {a b : List Int} {w w' : World} {base g n c : Nat} (h : PotT a b w base g n c) (k : Below w.heap.size w w') : PotT a b w' base g n c := by
  obtain ⟨h1, h2, rb, rc, T, h3, h4⟩ := h
  exact ⟨h1, h2, rb, rc, T, h3.below k, h4⟩
theorem pot_sm {a b : List Int} {A B : Option Addr} {n m ca cb : Nat} {w : World} (hK : Knd w) (ha : Lst w A n ca a) (hb : Lst w B m cb b) :
    Calls Tryd.prog 10 #[.slice A n ca, .slice B m cb] w fun e w' => (∃ g k c, e = .returned (.tuple #[.slice (some ⟨g, 0, none⟩) k c, .int .i64 0]) ∧ PotT a b w' w.heap.size g k c) ∧ Below w.heap.size w w' := by
  obtain ⟨rfl, a1, a2, a3⟩ := ha
  obtain ⟨rfl, b1, b2, b3⟩ := hb
  refine (pot_any a b A B ca cb w hK (by omega) (by omega) a2 b2 a3 b3).mono ?_
  rintro e w' ⟨h, hb⟩
  rw [if_neg (lng_no a1 b1)] at h
  obtain ⟨g, c, rb, rc, T, rfl, hc, hT, hP⟩ := h
  exact ⟨⟨g, _, c, rfl, rfl, hc, rb, rc, T, hT, hP⟩, hb⟩
theorem ver_sm {a b : List Int} {A B : Option Addr} {n m ca cb base g k c : Nat} {w : World} (z : Int) (hK : Knd w) (ha : Lst w A n ca a) (hb : Lst w B m cb b) (hp : PotT a b w base g k c) :
    Calls Tryd.prog 12 #[.slice A n ca, .slice B m cb, .int .i64 z, .slice (some ⟨g, 0, none⟩) k c] w fun e w' => e = .returned (.bool (decide (z ≤ cst a b 0 0))) ∧ Below w.heap.size w w' := by
  obtain ⟨rfl, a1, a2, a3⟩ := ha
  obtain ⟨rfl, b1, b2, b3⟩ := hb
  obtain ⟨rfl, hc, rb, rc, T, hT, hP⟩ := hp
  have hl := lng_no a1 b1
  have := ver_any a b z (tabL T (a.length + 1) (b.length + 1)) A B (some ⟨g, 0, none⟩) ca cb c w hK (by omega) (by omega) (by rw [tabL_len]; unfold maxLen; omega) a2 b2 hT.pp (hP.wid hl) a3 b3
  rw [tabL_len] at this
  refine this.mono ?_
  rintro e w' ⟨⟨r, rfl, hr⟩, hb⟩
  rw [hP.ver hl] at hr
  refine ⟨?_, hb⟩
  congr 2
  rw [Bool.eq_iff_iff, hr, decide_eq_true_iff]
theorem ver_yes {a b : List Int} {A B : Option Addr} {n m ca cb base g k c : Nat} {w : World} (hK : Knd w) (ha : Lst w A n ca a) (hb : Lst w B m cb b) (hp : PotT a b w base g k c) :
    Calls Tryd.prog 12 #[.slice A n ca, .slice B m cb, .int .i64 (cst a b 0 0), .slice (some ⟨g, 0, none⟩) k c] w fun e w' => e = .returned (.bool true) ∧ Below w.heap.size w w' := by
  have := ver_sm (cst a b 0 0) hK ha hb hp
  rwa [decide_eq_true (Int.le_refl _)] at this
theorem ver_no {a b : List Int} {A B : Option Addr} {n m ca cb base g k c : Nat} {w : World} (hK : Knd w) (ha : Lst w A n ca a) (hb : Lst w B m cb b) (hp : PotT a b w base g k c) :
    Calls Tryd.prog 12 #[.slice A n ca, .slice B m cb, .int .i64 (cst a b 0 0 + 1), .slice (some ⟨g, 0, none⟩) k c] w fun e w' => e = .returned (.bool false) ∧ Below w.heap.size w w' := by
  have := ver_sm (cst a b 0 0 + 1) hK ha hb hp
  rwa [decide_eq_false (by omega)] at this
end Go.Proofs.YtbdiilkdajadcaaDoor
