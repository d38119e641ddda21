/-
  Stage 9: names and digits (the program).
-/
import Derived.Test.YtdoifaifhikkjaaGreatDoorLEl
import Derived.Test.YtdoifaifhikkjaaGreatDoorLShelf
set_option linter.unusedSimpArgs false
set_option linter.unusedVariables false
namespace Go.Proofs.YtdoifaifhikkjaaGreatDoor
open Go.RowKit Go.Lib

theorem trim_nil (l cs : List UInt8) : Lib.trimS l cs = [] ↔ l.all (fun c => cs.contains c) = true := by
  have key : ∀ (p : UInt8 → Bool) (r : List UInt8), (r.dropWhile p = [] ↔ r.all p = true) := fun p r => by
    induction r with
    | nil => simp
    | cons a r ih =>
      by_cases h : p a = true
      · rw [List.dropWhile_cons_of_pos h, ih]; simp [h]
      · rw [List.dropWhile_cons_of_neg h]; simp [h]
  have key2 : ∀ (p : UInt8 → Bool) (r : List UInt8) (x : UInt8) (t : List UInt8), r.dropWhile p = x :: t → p x = false := fun p r => by
    induction r with
    | nil => intro x t h; simp at h
    | cons a r ih =>
      intro x t h
      by_cases hp : p a = true
      · rw [List.dropWhile_cons_of_pos hp] at h; exact ih x t h
      · rw [List.dropWhile_cons_of_neg hp] at h
        injection h with h1 h2
        subst h1
        simpa using hp
  unfold Lib.trimS Lib.trimLeftS Lib.trimRightS
  rw [key]
  constructor
  · intro h
    cases hr : l.reverse.dropWhile (fun x => cs.contains x) with
    | nil => have := (key _ _).1 hr; simpa using this
    | cons x t =>
      have h2 := key2 _ _ _ _ hr
      rw [hr] at h
      simp only [List.all_reverse, List.all_cons, h2] at h
      cases h
  · intro h
    have : l.reverse.dropWhile (fun x => cs.contains x) = [] := (key _ _).2 (by simpa using h)
    rw [this]; rfl
def nmL : List UInt8 := [97, 98, 99, 100, 101, 102, 103, 104, 105, 106, 107, 108, 109, 110, 111, 112, 113, 114, 115, 116, 117, 118, 119, 120, 121, 122, 48, 49, 50, 51, 52, 53, 54, 55, 56, 57]
def dgL : List UInt8 := [48, 49, 50, 51, 52, 53, 54, 55, 56, 57]
/-- A digit. -/
def dgc (c : UInt8) : Bool := decide (48 ≤ c.toNat ∧ c.toNat ≤ 57)
theorem all_bytes {p : UInt8 → Bool} (h : (List.range 256).all (fun n => p (UInt8.ofNat n)) = true) (c : UInt8) : p c = true := by
  have hc : c.toNat < 256 := c.toNat_lt
  have := List.all_eq_true.1 h c.toNat (List.mem_range.2 hc)
  simpa using this
theorem nm_has (c : UInt8) : nmL.contains c = nmc c := by
  have := all_bytes (p := fun c => nmL.contains c == nmc c) (by decide +kernel) c
  simpa using this
theorem dg_has (c : UInt8) : dgL.contains c = dgc c := by
  have := all_bytes (p := fun c => dgL.contains c == dgc c) (by decide +kernel) c
  simpa using this
def consB (s : ByteArray) (cs : List UInt8) : Bool := decide (s.size ≠ 0) && s.data.toList.all (fun c => cs.contains c)
theorem size_zero {s : ByteArray} : s.size = 0 ↔ s = ⟨#[]⟩ := by
  constructor
  · intro h
    cases s with
    | mk a =>
      congr 1
      exact Array.eq_empty_of_size_eq_zero h
  · intro h; subst h; rfl
theorem arr_nil (l : List UInt8) : (⟨l.toArray⟩ : ByteArray).toList = l := by
  rw [ByteArray.toList_eq]
set_option maxHeartbeats 800000 in
theorem cons_any (s cs : ByteArray) (w : World) (hs : s.size ≤ maxLen) (hc : cs.size < 4294967281) (ha : ∀ (j : Nat) b, cs.data.toList[j]? = some b → b.toNat < 128) :
    Calls Tryz.prog 50 #[.string s, .string cs] w fun e w' => e = .returned (.bool (consB s cs.data.toList)) ∧ Below w.heap.size w w' := by
  have hcon := Any.strings_Trim_laid trimS (by kernel_rfl) s cs w (by unfold maxLen at hs; exact hs) hc ha
  change Calls Tryz.prog 62 _ _ _ at hcon
  by_cases h0 : s = ⟨#[]⟩
  · subst h0
    go_enter Tryz.func50, Tryz.ntmps50
    go_wp2_with fail
    go_ret
    exact ⟨rfl, Below.refl _ _⟩
  · have hn : ¬ s.toList = [] := by
      rw [ByteArray.toList_eq]
      intro e
      refine h0 ?_
      cases s
      congr 1
      exact Array.toList_inj.1 e
    have hb := arr_nil (Lib.trimS s.data.toList cs.data.toList)
    have hv : consB s cs.data.toList = decide (Lib.trimS s.data.toList cs.data.toList = []) := by
      unfold consB
      rw [decide_eq_true (show s.size ≠ 0 from fun g => h0 (size_zero.1 g)), Bool.true_and]
      by_cases ht : Lib.trimS s.data.toList cs.data.toList = []
      · rw [decide_eq_true ht, (trim_nil _ _).1 ht]
      · rw [decide_eq_false ht]
        cases hh : s.data.toList.all (fun c => cs.data.toList.contains c)
        · rfl
        · exact absurd ((trim_nil _ _).2 hh) ht
    have HV := Lib.hid hv
    have HN := Lib.hid hn
    generalize (⟨(Lib.trimS s.data.toList cs.data.toList).toArray⟩ : ByteArray) = r at hcon hb
    have HB := Lib.hid hb
    clear h0 hv hb
    go_enter Tryz.func50, Tryz.ntmps50
    go_wp2_with fail
    refine hcon.mono ?_
    rintro e w' ⟨rfl, hB⟩
    go_wp2_with fail
    go_ret
    exact ⟨ret_bool (by rw [HV.out, HB.out]; first | rfl | (by_cases hh : Lib.trimS s.data.toList cs.data.toList = [] <;> simp [hh, HN.out])), hB⟩
theorem consB_name {s : ByteArray} (h : ¬ 12 < s.size) : consB s nmL = nameS s := by
  unfold consB nameS
  congr 1
  · exact decide_eq_decide.2 (by omega)
  · congr 1; funext c; exact nm_has c
set_option maxHeartbeats 800000 in
theorem pname_any (s : ByteArray) (w : World) (hs : s.size ≤ maxLen) :
    Calls Tryz.prog 35 #[.string s] w fun e w' => e = .returned (.bool (nameS s)) ∧ Below w.heap.size w w' := by
  have hcon := cons_any s ⟨nmL.toArray⟩ w hs (by decide) (ascii_of_all (by decide))
  by_cases h1 : 12 < s.size
  · have HF := Lib.hid (show nameS s = false by unfold nameS; rw [decide_eq_false (by omega)]; rfl)
    have hl : (12 : Int) < (s.size : Int) := by omega
    clear h1 hcon
    go_enter Tryz.func35, Tryz.ntmps35
    go_wp2_with fail
    go_ret
    exact ⟨ret_bool HF.out.symm, Below.refl _ _⟩
  · have hl : ¬ (12 : Int) < (s.size : Int) := by omega
    rw [show consB s (⟨nmL.toArray⟩ : ByteArray).data.toList = nameS s from consB_name h1] at hcon
    clear h1
    go_enter Tryz.func35, Tryz.ntmps35
    go_wp2_with fail
    refine hcon.mono ?_
    rintro e w' ⟨rfl, hB⟩
    go_wp2_with fail
    go_ret
    exact ⟨rfl, hB⟩
end Go.Proofs.YtdoifaifhikkjaaGreatDoor
