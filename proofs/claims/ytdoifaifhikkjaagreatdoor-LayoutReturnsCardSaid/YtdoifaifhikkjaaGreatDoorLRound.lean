/-
  Stage 9, plain: a valid layout is read as it is written: lines and words.
-/
import Derived.Test.YtdoifaifhikkjaaGreatDoorLLim
import Derived.Laws.RangeString
set_option linter.unusedSimpArgs false
set_option linter.unusedVariables false
namespace Go.Proofs.YtdoifaifhikkjaaGreatDoor
open Go.RowKit Go.Lib

/-- A byte that stands in a word. -/
def wch (c : UInt8) : Prop := c.toNat < 128 ∧ c ≠ 32 ∧ c ≠ 10
theorem dec_at {s : ByteArray} {pos : Nat} {c : UInt8} {t : List UInt8} (h : s.data.toList.drop pos = c :: t) (hc : c.toNat < 128) : pos < s.size ∧ Utf8.decode s pos = (c.toNat, 1) := by
  have hl : pos < s.data.toList.length := by
    have := congrArg List.length h
    rw [List.length_drop, List.length_cons] at this
    omega
  have hs : pos < s.size := hl
  have e : s[pos]'hs = c := by
    have := List.drop_eq_getElem_cons hl
    rw [this] at h
    exact (List.cons.inj h).1
  refine ⟨hs, ?_⟩
  rw [decode_ascii s pos hs (by rw [e]; exact hc), e]
theorem sp_no {c : UInt8} (h : c ≠ 32) : isSp c.toNat = false := by
  unfold isSp
  apply beq_eq_false_iff_ne.2
  intro e
  exact h (UInt8.toNat_inj.1 e)
theorem drop_next {s : ByteArray} {pos : Nat} {c : UInt8} {t : List UInt8} (h : s.data.toList.drop pos = c :: t) : s.data.toList.drop (pos + 1) = t := by
  rw [← List.drop_drop, h]; rfl
theorem ext_word {s : ByteArray} {pos : Nat} {y t : List UInt8} (h : s.data.toList.drop pos = y ++ t) : s.extract pos (pos + y.length) = bs y := by
  apply ba_ext
  rw [ext_list, List.drop_take, h, Nat.add_sub_cancel_left, List.take_left]
theorem spans_words (s : ByteArray) : ∀ (f pos a : Nat) (acc : List (Nat × Nat)) (w : List UInt8) (r : List (List UInt8)), s.data.toList.drop pos = w ++ Lib.joinTail [32] r → pos ≤ s.size → s.size ≤ pos + f →
    (∀ c ∈ w, wch c) → (∀ y ∈ r, y ≠ [] ∧ ∀ c ∈ y, wch c) →
    (Lib.closeSpans s (Lib.spansFromP isSp s f pos (some a) acc)).map (fun x => s.extract x.1 x.2) = acc.map (fun x => s.extract x.1 x.2) ++ [s.extract a (pos + w.length)] ++ r.map bs := by
  have fin : ∀ (f pos a : Nat) (acc : List (Nat × Nat)), s.data.toList.drop pos = [] → pos ≤ s.size → (Lib.closeSpans s (Lib.spansFromP isSp s f pos (some a) acc)).map (fun x => s.extract x.1 x.2) = acc.map (fun x => s.extract x.1 x.2) ++ [s.extract a pos] := by
    intro f pos a acc h hp
    have hl : s.data.toList.length ≤ pos := List.drop_eq_nil_iff.1 h
    have hz : s.size = pos := Nat.le_antisymm hl hp
    rw [Lib.spansFromP_end _ _ _ _ _ _ (by omega)]
    unfold Lib.closeSpans
    rw [List.map_append, hz]; rfl
  intro f
  induction f using Nat.strongRecOn with
  | ind f ih =>
    intro pos a acc w r h hp hf hw hr
    cases w with
    | cons c w =>
      obtain ⟨hs, hd⟩ := dec_at h (hw c (by simp)).1
      obtain ⟨g, rfl⟩ : ∃ g, f = g + 1 := ⟨f - 1, by omega⟩
      unfold Lib.spansFromP
      rw [if_pos hs, hd]
      simp only [sp_no (hw c (by simp)).2.1]
      rw [if_neg (by decide)]
      rw [ih g (by omega) (pos + 1) a acc w r (drop_next h) (by omega) (by omega) (fun c hc => hw c (List.mem_cons_of_mem _ hc)) hr]
      rw [List.length_cons, show pos + 1 + w.length = pos + (w.length + 1) by omega]
    | nil =>
      rw [List.nil_append] at h
      cases r with
      | nil =>
        have := fin f pos a acc h hp
        rw [this]; simp
      | cons y r =>
        have h2 : s.data.toList.drop pos = 32 :: (y ++ Lib.joinTail [32] r) := by rw [h]; simp [Lib.joinTail]
        obtain ⟨hs, hd⟩ := dec_at h2 (by decide)
        have h3 := drop_next h2
        obtain ⟨hy, hyc⟩ := hr y (by simp)
        cases y with
        | nil => exact absurd rfl hy
        | cons c y =>
          obtain ⟨hs2, hd2⟩ := dec_at (t := y ++ Lib.joinTail [32] r) (by rw [h3]; rfl) (hyc c (by simp)).1
          obtain ⟨g, rfl⟩ : ∃ g, f = g + 1 + 1 := ⟨f - 2, by omega⟩
          unfold Lib.spansFromP
          rw [if_pos hs, hd]
          have e32 : isSp (32 : UInt8).toNat = true := by decide
          simp only [e32]
          rw [if_pos trivial]
          unfold Lib.spansFromP
          rw [if_pos hs2, hd2]
          simp only [sp_no (hyc c (by simp)).2.1]
          rw [if_neg (by decide)]
          have h4 : s.data.toList.drop (pos + 1 + 1) = y ++ Lib.joinTail [32] r := drop_next (t := y ++ Lib.joinTail [32] r) (by rw [h3]; rfl)
          rw [ih g (by omega) (pos + 1 + 1) (pos + 1) (acc ++ [(a, pos)]) y r h4 (by omega) (by omega) (fun c hc => hyc c (List.mem_cons_of_mem _ hc)) (fun z hz => hr z (List.mem_cons_of_mem _ hz))]
          have e := ext_word (y := c :: y) h3
          rw [List.length_cons] at e
          rw [show pos + 1 + 1 + y.length = pos + 1 + (y.length + 1) by omega, e]
          simp
/-- The words of a line that was written. -/
theorem wds_join {w : List UInt8} {r : List (List UInt8)} (hn : w ≠ []) (hw : ∀ c ∈ w, wch c) (hr : ∀ y ∈ r, y ≠ [] ∧ ∀ c ∈ y, wch c) : wdsB (bs (Lib.join (w :: r) [32])) = bs w :: r.map bs := by
  rw [Lib.join_cons]
  cases w with
  | nil => exact absurd rfl hn
  | cons c w =>
    have h : (bs ((c :: w) ++ Lib.joinTail [32] r)).data.toList.drop 0 = c :: (w ++ Lib.joinTail [32] r) := rfl
    obtain ⟨hs, hd⟩ := dec_at h (hw c (by simp)).1
    have h1 := drop_next h
    have e := ext_word (s := bs ((c :: w) ++ Lib.joinTail [32] r)) (pos := 0) (y := c :: w) (t := Lib.joinTail [32] r) rfl
    generalize bs ((c :: w) ++ Lib.joinTail [32] r) = s at h hs hd h1 e ⊢
    unfold wdsB Lib.goFieldsP Lib.spansOfP
    obtain ⟨g, hg⟩ : ∃ g, s.size = g + 1 := ⟨s.size - 1, by omega⟩
    rw [hg]
    unfold Lib.spansFromP
    rw [if_pos hs, hd]
    simp only [sp_no (hw c (by simp)).2.1]
    rw [if_neg (by decide)]
    have := spans_words s g 1 0 [] w r h1 (by omega) (by omega) (fun c hc => hw c (List.mem_cons_of_mem _ hc)) hr
    rw [Nat.zero_add, this]
    rw [Nat.zero_add, List.length_cons] at e
    rw [show 1 + w.length = w.length + 1 by omega, e]
    simp
/-- The lines of a text that was written. -/
theorem lns_flat : ∀ (ls : List (List UInt8)), (∀ a ∈ ls, (10 : UInt8) ∉ a) → lnsB (bs ((ls.map (· ++ [10])).flatten)) = ls.map bs ++ [bs []]
  | [], _ => lnsB_last (by simp)
  | a :: ls, h => by
    have e : (((a :: ls).map (· ++ [10])).flatten) = a ++ 10 :: ((ls.map (· ++ [10])).flatten) := by simp
    rw [e, lnsB_hit (h a (by simp)), lns_flat ls (fun b hb => h b (List.mem_cons_of_mem _ hb))]; rfl
end Go.Proofs.YtdoifaifhikkjaaGreatDoor
