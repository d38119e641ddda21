/-
  Stage 9, plain: a parent's word is read as it is written.
-/
import Derived.Test.YtdoifaifhikkjaaGreatDoorLRNum
set_option linter.unusedSimpArgs false
set_option linter.unusedVariables false
namespace Go.Proofs.YtdoifaifhikkjaaGreatDoor
open Go.RowKit Go.Lib

/-- The indexes of the elements that were read. -/
structure IdxOk (f : Idx) (seen : List El) : Prop where
  hit : ∀ j y, seen[j]? = some y → f y.name = some j
  dom : ∀ s j, f s = some j → nameS s = true
theorem IdxOk.start : IdxOk (fun _ => none) [] := ⟨fun j y h => by simp at h, fun s j h => by cases h⟩
theorem IdxOk.snoc {f : Idx} {seen : List El} {x : El} (h : IdxOk f seen) (hn : nameS x.name = true) (hf : x.name ∉ seen.map El.name) : IdxOk (updI f x.name seen.length) (seen ++ [x]) := by
  refine ⟨fun j y hy => ?_, fun s j hs => ?_⟩
  · unfold updI
    by_cases hj : j < seen.length
    · rw [List.getElem?_append_left hj] at hy
      rw [if_neg (fun e => hf (by rw [← e]; exact List.mem_map_of_mem (List.mem_of_getElem? hy)))]
      exact h.hit j y hy
    · rw [List.getElem?_append_right (by omega)] at hy
      have hlt := (List.getElem?_eq_some_iff.1 hy).1
      simp only [List.length_cons, List.length_nil] at hlt
      have h0 : j - seen.length = 0 := by omega
      rw [h0] at hy
      simp only [List.getElem?_cons_zero, Option.some.injEq] at hy
      subst hy
      rw [if_pos rfl]
      congr 1
      omega
  · unfold updI at hs
    by_cases e : s = x.name
    · rw [e]; exact hn
    · rw [if_neg e] at hs; exact h.dom s j hs
theorem no_colon {s : ByteArray} (h : nameS s = true) : (58 : UInt8) ∉ s.data.toList := by
  intro hm
  unfold nameS at h
  rw [Bool.and_eq_true] at h
  have := List.all_eq_true.1 h.2 58 hm
  exact absurd this (by decide)
theorem suf_app (a p : List UInt8) : Lib.hasSuffix (a ++ p) p = true := by
  unfold Lib.hasSuffix
  exact List.isSuffixOf_iff_suffix.2 ⟨a, rfl⟩
theorem trim_app (a p : List UInt8) : Lib.trimSuffix (a ++ p) p = a := by
  unfold Lib.trimSuffix
  rw [if_pos (suf_app a p), List.length_append, Nat.add_sub_cancel, List.take_left]
theorem par_of {f : Idx} {seen : List El} (F : IdxOk f seen) {j : Nat} {y : El} (hy : seen[j]? = some y) {sd : Nat} (hsd : sd ≤ 2) :
    parV f (y.name ++ bs (sxL.getD sd [])).data.toList = ((j : Int), (sd : Int), true) := by
  have hf := F.hit j y hy
  have hl : (y.name ++ bs (sxL.getD sd [])).data.toList = y.name.data.toList ++ sxL.getD sd [] := by
    rw [ByteArray.data_append, Array.toList_append]
  have hst : ∀ d, stem (y.name.data.toList ++ sxL.getD d []) d = y.name := fun d => by
    unfold stem
    rw [trim_app, bs_list]
  have hit : ∀ d n, parF f (y.name.data.toList ++ sxL.getD d []) (n + 1) d = ((j : Int), (d : Int), true) := fun d n => by
    rw [parF_hit ⟨by rw [hst, hf]; rfl, suf_app _ _⟩, hst]
    unfold gI
    rw [hf]; rfl
  have miss0 : ∀ (d n : Nat), (58 : UInt8) ∈ sxL.getD d [] → parF f (y.name.data.toList ++ sxL.getD d []) (n + 1) 0 = parF f (y.name.data.toList ++ sxL.getD d []) n 1 := fun d n hm => by
    refine parF_miss fun h => ?_
    have h0 : stem (y.name.data.toList ++ sxL.getD d []) 0 = bs (y.name.data.toList ++ sxL.getD d []) := by
      unfold stem
      have := trim_app (y.name.data.toList ++ sxL.getD d []) []
      rw [List.append_nil] at this
      show bs (Lib.trimSuffix _ []) = _
      rw [this]
    rw [h0] at h
    obtain ⟨k, hk⟩ := Option.isSome_iff_exists.1 h.1
    exact no_colon (F.dom _ _ hk) (List.mem_append_right _ hm)
  rw [hl]
  unfold parV
  rcases (by omega : sd = 0 ∨ sd = 1 ∨ sd = 2) with rfl | rfl | rfl
  · exact hit 0 2
  · rw [miss0 1 2 (by decide)]
    exact hit 1 1
  · rw [miss0 2 2 (by decide)]
    rw [parF_miss (fun h => ?_)]
    · exact hit 2 0
    · have h1 := h.2
      unfold hasS Lib.hasSuffix at h1
      obtain ⟨t, ht⟩ := List.isSuffixOf_iff_suffix.1 h1
      have := congrArg List.reverse ht
      simp [sxL] at this
end Go.Proofs.YtdoifaifhikkjaaGreatDoor
