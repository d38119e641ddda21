/-
  Stage 9: the numbers of a line (the program).
-/
import Derived.Test.YtdoifaifhikkjaaGreatDoorLName
import Derived.Test.YtdoifaifhikkjaaGreatDoorLDor
set_option linter.unusedSimpArgs false
set_option linter.unusedVariables false
namespace Go.Proofs.YtdoifaifhikkjaaGreatDoor
open Go.RowKit Go.Lib

abbrev bs (l : List UInt8) : ByteArray := ⟨l.toArray⟩
theorem bs_list (s : ByteArray) : bs s.data.toList = s := by cases s; rfl
theorem list_bs (l : List UInt8) : (bs l).data.toList = l := rfl
theorem bs_inj {a b : List UInt8} (h : bs a = bs b) : a = b := by
  have := congrArg (fun s : ByteArray => s.data.toList) h
  simpa using this
/-- What stands behind a minus sign. -/
def magL (l : List UInt8) : List UInt8 := Lib.trimPrefix l [45]
/-- The form of a number. -/
def isNumL (l : List UInt8) : Bool := decide (l = [48]) || (consB (bs (magL l)) dgL && decide ((magL l).head? ≠ some 48))
/-- Its value, if it is in range. -/
def goodNum (l : List UInt8) : Option Int :=
  match Lib.atoiAll l with
  | .ok v => if -1000000000 ≤ v ∧ v ≤ 1000000000 then some v else none
  | _ => none
theorem bs_index {l : List UInt8} {c : UInt8} {t : List UInt8} (h : l = c :: t) : (bs l).size = t.length + 1 := by subst h; simp [bs, ByteArray.size]
theorem ne48 (c : UInt8) (t : List UInt8) : ((c.toNat : Int) != 48) = decide ((c :: t).head? ≠ some 48) := by
  rw [List.head?_cons]
  by_cases h : c = 48
  · subst h; rfl
  · have h1 : c.toNat ≠ 48 := fun g => h (UInt8.toNat_inj.1 g)
    rw [decide_eq_true (by intro g; injection g with g; exact h g)]
    exact bne_iff_ne.2 (by omega)
set_option maxHeartbeats 800000 in
theorem isnum_any (s : ByteArray) (w : World) (hs : s.size ≤ maxLen) :
    Calls Tryz.prog 47 #[.string s] w fun e w' => e = .returned (.bool (isNumL s.data.toList)) ∧ Below w.heap.size w w' := by
  by_cases h0 : s.data.toList = [48]
  · have h1 : (s.toList == [48]) = true := by rw [ByteArray.toList_eq]; exact beq_iff_eq.2 h0
    have HF := Lib.hid (show isNumL s.data.toList = true by unfold isNumL; rw [decide_eq_true h0]; rfl)
    clear h0
    go_enter Tryz.func47, Tryz.ntmps47
    go_wp2_with fail
    go_ret
    exact ⟨ret_bool HF.out.symm, Below.refl _ _⟩
  · have h1 : (s.toList == [48]) = false := by rw [ByteArray.toList_eq]; exact beq_eq_false_iff_ne.2 h0
    have HF := Lib.hid (show isNumL s.data.toList = (consB (bs (magL s.data.toList)) dgL && decide ((magL s.data.toList).head? ≠ some 48)) by unfold isNumL; rw [decide_eq_false h0, Bool.false_or])
    have hp := Any.strings_TrimPrefix trimP s ⟨#[45]⟩ w
    change Calls Tryz.prog 59 _ _ _ at hp
    have hml : (bs (magL s.data.toList)).size ≤ maxLen := by
      have : (magL s.data.toList).length ≤ s.data.toList.length := by
        unfold magL Lib.trimPrefix
        split
        · rw [List.length_drop]; omega
        · exact Nat.le_refl _
      have e : (bs (magL s.data.toList)).size = (magL s.data.toList).length := rfl
      have e2 : s.size = s.data.toList.length := rfl
      omega
    have hcon := cons_any (bs (magL s.data.toList)) ⟨dgL.toArray⟩ w hml (by decide) (ascii_of_all (by decide))
    rw [show (⟨dgL.toArray⟩ : ByteArray).data.toList = dgL from rfl] at hcon
    have HP := Lib.hid (show Calls Tryz.prog 59 #[.string s, .string ⟨#[45]⟩] w (fun e w' => e = .returned (.string (bs (magL s.data.toList))) ∧ w' = w) from hp)
    have HIX : Hid (∀ c t, magL s.data.toList = c :: t → ∃ hh : 0 < (bs (magL s.data.toList)).size, (bs (magL s.data.toList))[0] = c) := Lib.hid (fun c t h => by
      refine ⟨by rw [bs_index h]; omega, ?_⟩
      simp only [h]
      rfl)
    have HNE : Hid (consB (bs (magL s.data.toList)) dgL = true → magL s.data.toList ≠ []) := Lib.hid (fun h g => by
      rw [g] at h
      simp [consB, bs, ByteArray.size] at h)
    obtain ⟨m, hm⟩ : ∃ m, m = magL s.data.toList := ⟨_, rfl⟩
    rw [← hm] at HF HP hcon HIX HNE
    clear h0 hp hml hm
    obtain ⟨b, hb⟩ : ∃ b, b = consB (bs m) dgL := ⟨_, rfl⟩
    rw [← hb] at hcon HF HNE
    have HC := Lib.hid hcon
    clear hcon hb
    go_enter Tryz.func47, Tryz.ntmps47
    go_wp2_with fail
    refine HP.out.mono ?_
    rintro e w' ⟨rfl, rfl⟩
    go_wp2_with fail
    refine HC.out.mono ?_
    rintro e w1 ⟨rfl, B1⟩
    cases b with
    | false =>
      go_wp2_with fail
      go_ret
      exact ⟨ret_bool HF.out.symm, B1⟩
    | true =>
      cases m with
      | nil => exact absurd rfl (HNE.out rfl)
      | cons c t =>
        obtain ⟨hh, hx⟩ := HIX.out c t rfl
        have hlt : (0 : Int) < ((bs (c :: t)).size : Int) := by omega
        go_wp2_with fail
        go_ret
        exact ⟨ret_bool (by rw [HF.out, Bool.true_and]; exact ne48 c t), B1⟩
end Go.Proofs.YtdoifaifhikkjaaGreatDoor
