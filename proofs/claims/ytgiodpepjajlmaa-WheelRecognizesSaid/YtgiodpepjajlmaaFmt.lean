/-
  Stage 2: the reference's Format and Parse.
-/
import Derived.Test.YtgiodpepjajlmaaKind
set_option linter.unusedSimpArgs false
set_option linter.unusedVariables false
namespace Go.Proofs.Ytgiodpepjajlmaa
open Go.RowKit

/-- The text of a number; the digits of a text. -/
def fmtS (s : ByteArray) : ByteArray := s.extract 0 2 ++ ⟨#[32]⟩ ++ s.extract 2 4 ++ ⟨#[32]⟩ ++ s.extract 4 8 ++ ⟨#[32]⟩ ++ s.extract 8 11 ++ ⟨#[45]⟩ ++ s.extract 11 12
def cutS (t : ByteArray) : ByteArray := t.extract 0 2 ++ t.extract 3 5 ++ t.extract 6 10 ++ t.extract 11 14 ++ t.extract 15 16
def formatR (s : ByteArray) : ByteArray × Int := if validS s = 0 then (fmtS s, 0) else (⟨#[]⟩, validS s)
/-- The form of a text. -/
def shp (t : ByteArray) : Bool := decide (t.size = 16 ∧ (t.data.toList.getD 2 0).toNat = 32 ∧ (t.data.toList.getD 5 0).toNat = 32 ∧ (t.data.toList.getD 10 0).toNat = 32 ∧ (t.data.toList.getD 14 0).toNat = 45)
def parseR (t : ByteArray) : ByteArray × Int :=
  if shp t = true then (if dgs (cutS t) 12 = true then (if validS (cutS t) = 0 then (cutS t, 0) else (⟨#[]⟩, validS (cutS t))) else (⟨#[]⟩, 6)) else (⟨#[]⟩, 6)

theorem shp_mk {t : ByteArray} (h : t.size = 16) (h2 : (t[2]'(by omega)).toNat = 32) (h5 : (t[5]'(by omega)).toNat = 32) (h10 : (t[10]'(by omega)).toNat = 32) (h14 : (t[14]'(by omega)).toNat = 45) : shp t = true := by
  unfold shp
  rw [getD_byte t 2 (by omega), getD_byte t 5 (by omega), getD_byte t 10 (by omega), getD_byte t 14 (by omega)]
  exact decide_eq_true ⟨h, h2, h5, h10, h14⟩
theorem shp_no {t : ByteArray} (h : t.size ≠ 16) : shp t = false := decide_eq_false (fun g => h g.1)
theorem shp_no' {t : ByteArray} (h : t.size = 16) (g : ¬ ((t[2]'(by omega)).toNat = 32 ∧ (t[5]'(by omega)).toNat = 32 ∧ (t[10]'(by omega)).toNat = 32 ∧ (t[14]'(by omega)).toNat = 45)) : shp t = false := by
  unfold shp
  rw [getD_byte t 2 (by omega), getD_byte t 5 (by omega), getD_byte t 10 (by omega), getD_byte t 14 (by omega)]
  exact decide_eq_false (fun k => g k.2)

theorem shp_t {t : ByteArray} (h : shp t = true) : ∃ hz : t.size = 16, (t[2]'(by omega)).toNat = 32 ∧ (t[5]'(by omega)).toNat = 32 ∧ (t[10]'(by omega)).toNat = 32 ∧ (t[14]'(by omega)).toNat = 45 := by
  have g : t.size = 16 ∧ (t.data.toList.getD 2 0).toNat = 32 ∧ (t.data.toList.getD 5 0).toNat = 32 ∧ (t.data.toList.getD 10 0).toNat = 32 ∧ (t.data.toList.getD 14 0).toNat = 45 := of_decide_eq_true h
  obtain ⟨hz, g2, g5, g10, g14⟩ := g
  rw [getD_byte t 2 (by omega)] at g2
  rw [getD_byte t 5 (by omega)] at g5
  rw [getD_byte t 10 (by omega)] at g10
  rw [getD_byte t 14 (by omega)] at g14
  exact ⟨hz, g2, g5, g10, g14⟩

end Go.Proofs.Ytgiodpepjajlmaa
