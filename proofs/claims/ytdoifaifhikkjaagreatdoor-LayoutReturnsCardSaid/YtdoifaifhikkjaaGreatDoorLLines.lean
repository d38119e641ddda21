/-
  Stage 9, plain: lines and comments.
-/
import Derived.Test.YtdoifaifhikkjaaGreatDoorLSane
set_option linter.unusedSimpArgs false
set_option linter.unusedVariables false
namespace Go.Proofs.YtdoifaifhikkjaaGreatDoor
open Go.RowKit Go.Lib

theorem occ_at {l : List UInt8} {j : Nat} (h : l[j]? ≠ some 10) : Lib.occAt l [10] j = false := by
  unfold Lib.occAt
  cases hd : l.drop j with
  | nil => rfl
  | cons c t =>
    have : l[j]? = some c := by
      have := congrArg (fun x => x[0]?) hd
      simp only [List.getElem?_drop, List.getElem?_cons_zero, Nat.add_zero] at this
      exact this
    rw [this] at h
    simp only [List.isPrefixOf, Bool.and_true]
    rw [beq_eq_false_iff_ne]
    exact fun e => h (by rw [e])
theorem ba_ext {a b : ByteArray} (h : a.data.toList = b.data.toList) : a = b := by
  cases a; cases b
  congr 1
  exact Array.toList_inj.1 h
theorem ext_list (s : ByteArray) (b e : Nat) : (s.extract b e).data.toList = (s.data.toList.take e).drop b := by
  rw [ByteArray.data_extract, Array.toList_extract, List.extract_eq_drop_take']
theorem lnsB_last {a : List UInt8} (h : (10 : UInt8) ∉ a) : lnsB (bs a) = [bs a] := by
  have hi : Lib.indexB (bs a) ⟨#[10]⟩ = -1 := Lib.index_none (s := a) (sub := [10]) (fun j _ => occ_at (fun g => h (List.mem_of_getElem? g)))
  unfold lnsB
  rw [Lib.countB_miss _ _ hi]; rfl
theorem lnsB_hit {a b : List UInt8} (h : (10 : UInt8) ∉ a) : lnsB (bs (a ++ 10 :: b)) = bs a :: lnsB (bs b) := by
  have hi : Lib.indexB (bs (a ++ 10 :: b)) ⟨#[10]⟩ = (a.length : Int) := Lib.index_first (s := a ++ 10 :: b) (sub := [10]) (i := a.length) (by simp) (by unfold Lib.occAt; rw [List.drop_left]; simp [List.isPrefixOf]) (fun j hj => occ_at (by
    rw [List.getElem?_append_left hj]
    exact fun g => h (List.mem_of_getElem? g)))
  have he : (bs (a ++ 10 :: b)).extract (a.length + 1) (bs (a ++ 10 :: b)).size = bs b := ba_ext (by
    rw [ext_list]
    have e1 : (bs (a ++ 10 :: b)).data.toList = a ++ 10 :: b := rfl
    have e2 : (bs (a ++ 10 :: b)).size = (a ++ 10 :: b).length := rfl
    rw [e1, e2, List.take_length, ← List.drop_drop, List.drop_left]; rfl)
  have h0 : (bs (a ++ 10 :: b)).extract 0 (a.length + 0) = bs a := ba_ext (by
    rw [Lib.extract_from_zero]
    have e1 : (bs (a ++ 10 :: b)).data.toList = a ++ 10 :: b := rfl
    rw [e1, Nat.add_zero, List.take_left])
  unfold lnsB
  have hc := Lib.countB_hit (bs (a ++ 10 :: b)) ⟨#[10]⟩ a.length (by decide) hi
  have hs : (⟨#[10]⟩ : ByteArray).size = 1 := rfl
  rw [hs, he] at hc
  rw [hc, Nat.add_comm 1, Lib.splitB_hit _ _ _ _ a.length hi, hs, he, h0]
theorem spans_head (p : Nat → Bool) (s : ByteArray) : ∀ (f pos : Nat) (st : Option Nat) (x0 : Nat × Nat) (t0 : List (Nat × Nat)), ∃ t, Lib.closeSpans s (Lib.spansFromP p s f pos st (x0 :: t0)) = x0 :: t
  | 0, pos, st, x0, t0 => by
    unfold Lib.spansFromP Lib.closeSpans
    cases st <;> exact ⟨_, rfl⟩
  | f + 1, pos, st, x0, t0 => by
    unfold Lib.spansFromP
    split
    · split
      · cases st with
        | none => exact spans_head p s f _ _ x0 t0
        | some a => exact spans_head p s f _ _ x0 (t0 ++ [(a, pos)])
      · cases st <;> exact spans_head p s f _ _ x0 t0
    · unfold Lib.closeSpans
      cases st <;> exact ⟨_, rfl⟩
theorem spans_first (p : Nat → Bool) (s : ByteArray) : ∀ (f pos a : Nat), 1 ≤ pos → ∃ e t, Lib.closeSpans s (Lib.spansFromP p s f pos (some a) []) = (a, e) :: t ∧ (1 ≤ e ∨ e = s.size)
  | 0, pos, a, h => ⟨s.size, [], by simp [Lib.spansFromP, Lib.closeSpans], Or.inr rfl⟩
  | f + 1, pos, a, h => by
    unfold Lib.spansFromP
    split
    · split
      · obtain ⟨t, ht⟩ := spans_head p s f (pos + (Utf8.decode s pos).2) none (a, pos) []
        exact ⟨pos, t, ht, Or.inl h⟩
      · exact spans_first p s f _ a (by omega)
    · exact ⟨s.size, [], by simp [Lib.closeSpans], Or.inr rfl⟩
/-- A line that begins with # is a comment. -/
theorem com_hash {t : List UInt8} (hd : (Utf8.decode (bs (35 :: t)) 0) = (35, 1)) : isCom (wdsB (bs (35 :: t))) = true := by
  obtain ⟨e, r, he, h1⟩ := spans_first isSp (bs (35 :: t)) t.length 1 0 (Nat.le_refl _)
  have hw : wdsB (bs (35 :: t)) = (bs (35 :: t)).extract 0 e :: r.map (fun x => (bs (35 :: t)).extract x.1 x.2) := by
    unfold wdsB Lib.goFieldsP Lib.spansOfP
    have hsz : (bs (35 :: t)).size = t.length + 1 := rfl
    have : Lib.spansFromP isSp (bs (35 :: t)) (bs (35 :: t)).size 0 none [] = Lib.spansFromP isSp (bs (35 :: t)) t.length 1 (some 0) [] := by
      rw [hsz]
      conv => lhs; unfold Lib.spansFromP
      rw [if_pos (by rw [hsz]; omega), hd]
      simp [isSp]
    rw [this, he]; rfl
  have h1' : 1 ≤ e := by
    rcases h1 with h | h
    · exact h
    · have : (bs (35 :: t)).size = t.length + 1 := rfl
      omega
  unfold isCom
  rw [hw]
  rw [Bool.or_eq_true]
  right
  show Lib.hasPrefix ((bs (35 :: t)).extract 0 e).data.toList [35] = true
  rw [Lib.extract_from_zero]
  have e1 : (bs (35 :: t)).data.toList = 35 :: t := rfl
  rw [e1]
  obtain ⟨q, rfl⟩ : ∃ q, e = q + 1 := ⟨e - 1, by omega⟩
  simp [Lib.hasPrefix, List.isPrefixOf]
end Go.Proofs.YtdoifaifhikkjaaGreatDoor
