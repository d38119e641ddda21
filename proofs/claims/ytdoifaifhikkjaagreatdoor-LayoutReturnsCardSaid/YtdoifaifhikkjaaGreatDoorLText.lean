/-
  Stage 9: the walk of LayoutText.
-/
import Derived.Test.YtdoifaifhikkjaaGreatDoorLLines
import Derived.Test.YtdoifaifhikkjaaGreatDoorMkDigits
import Derived.Test.YtdoifaifhikkjaaGreatDoorByts
set_option linter.unusedSimpArgs false
set_option linter.unusedVariables false
namespace Go.Proofs.YtdoifaifhikkjaaGreatDoor
open Go.RowKit Go.Lib

def tA : List UInt8 := [99, 114, 101, 115, 116, 32, 99]
def tB : List UInt8 := [116, 114, 97, 99, 107, 32, 116, 32, 99, 32, 49, 32, 48, 32, 48]
def tPre : List UInt8 := [99, 114, 101, 115, 116, 32, 99, 10, 116, 114, 97, 99, 107, 32, 116, 32, 99, 32, 49, 32, 48, 32, 48, 10, 35]
def elT : El := ⟨4, ⟨#[116]⟩, 0, 0, 1, 0, 0, 0⟩
def fT : Idx := nextI (fun _ => none) 0 (some el0)
set_option maxRecDepth 1000000 in
theorem lnA : lineE (fun _ => none) (wdsB (bs tA)) = (0, some el0) := by decide +kernel
set_option maxRecDepth 1000000 in
theorem lnB : lineE fT (wdsB (bs tB)) = (0, some elT) := by decide +kernel
theorem lines_text (k : Nat) : linesE [] (fun _ => none) 0 (lnsB (bs (tPre ++ List.replicate k 120))) = ([el0, elT], 0, 0) := by
  have e : tPre ++ List.replicate k 120 = tA ++ 10 :: (tB ++ 10 :: (35 :: List.replicate k 120)) := rfl
  have hc : (10 : UInt8) ∉ (35 :: List.replicate k 120 : List UInt8) := by
    intro h
    rcases List.mem_cons.1 h with h | h
    · cases h
    · have := (List.mem_replicate.1 h).2
      cases this
  rw [e, lnsB_hit (by decide), lnsB_hit (by decide), lnsB_last hc]
  have hA : (lineE (fun _ => none) (wdsB (bs tA))).1 = 0 := by rw [lnA]
  rw [linesE_ok hA, lnA]
  have hB : (lineE (nextI (fun _ => none) ([] : List El).length (some el0)) (wdsB (bs tB))).1 = 0 := by
    show (lineE fT (wdsB (bs tB))).1 = 0
    rw [lnB]
  rw [linesE_ok hB]
  have hB2 : lineE (nextI (fun _ => none) ([] : List El).length (some el0)) (wdsB (bs tB)) = (0, some elT) := lnB
  rw [hB2]
  have hC : ∀ f, lineE f (wdsB (bs (35 :: List.replicate k 120))) = (0, none) := fun f => lineE_com (com_hash rfl)
  rw [linesE_ok (by rw [hC]), hC]
  rfl
theorem parse_text (k : Nat) (h : k ≤ 16359) : parseE (bs (tPre ++ List.replicate k 120)) = ([el0, elT], 0, 0) := by
  have hs : (bs (tPre ++ List.replicate k 120)).size = 25 + k := by
    show (tPre ++ List.replicate k 120).length = _
    rw [List.length_append, List.length_replicate]; rfl
  unfold parseE
  rw [if_neg (by rw [hs]; omega), lines_text, if_neg (fun g => g rfl), if_neg (fun g => g (by decide +kernel))]
theorem parse_big (k : Nat) (h : 16360 ≤ k) : parseE (bs (tPre ++ List.replicate k 120)) = ([], 0, 3) := by
  have hs : (bs (tPre ++ List.replicate k 120)).size = 25 + k := by
    show (tPre ++ List.replicate k 120).length = _
    rw [List.length_append, List.length_replicate]; rfl
  unfold parseE
  rw [if_pos (by rw [hs]; omega)]
theorem wrap_tmod3L (n : Int) : wrap64 (n.tmod 3 + 3) = n.tmod 3 + 3 := by
  have h1 := tmod_bd n 3 (by decide)
  exact IntWalk.wrap64_in _ (by omega)
theorem rem3 (n : Int) : ∃ N : Nat, (wrap64 (n.tmod 3 + 3)).tmod 3 = (N : Int) ∧ N ≤ 2 := by
  rw [wrap_tmod3L]
  have h1 := tmod_bd n 3 (by decide)
  have h2 := tmod_bd (n.tmod 3 + 3) 3 (by decide)
  have h3 : 0 ≤ (n.tmod 3 + 3).tmod 3 := Int.tmod_nonneg _ (by omega)
  exact ⟨((n.tmod 3 + 3).tmod 3).toNat, by omega, by omega⟩
/-- The bytes while they are written. -/
def partX (m k : Nat) : List Int := List.replicate k 120 ++ List.replicate (m - k) 0
theorem partX_len {m k : Nat} (h : k ≤ m) : (partX m k).length = m := by unfold partX; simp; omega
theorem partX_set {m k : Nat} (h : k < m) : (partX m k).set k 120 = partX m (k + 1) := by
  unfold partX
  rw [List.set_append_right _ _ (by simp), List.length_replicate, Nat.sub_self]
  obtain ⟨q, hq⟩ : ∃ q, m - k = q + 1 := ⟨m - k - 1, by omega⟩
  rw [hq, show m - (k + 1) = q by omega, List.replicate_succ, List.set_cons_zero, List.replicate_succ', List.append_assoc]; rfl
theorem str_x (m : Nat) : strOfNums (partX m m) = bs (List.replicate m 120) := by
  unfold partX
  rw [Nat.sub_self]
  simp [strOfNums, bs]
end Go.Proofs.YtdoifaifhikkjaaGreatDoor
