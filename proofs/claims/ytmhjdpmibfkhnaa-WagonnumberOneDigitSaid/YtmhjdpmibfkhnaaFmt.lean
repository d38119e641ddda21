/-
  Stage 2: the reference's Format and Parse.
-/
import Derived.Test.YtmhjdpmibfkhnaaKind
set_option linter.unusedSimpArgs false
set_option linter.unusedVariables false
namespace Go.Proofs.Ytmhjdpmibfkhnaa
open Go.RowKit

/-- The text of a number; the digits of a text. -/
def fmtS (s : ByteArray) : ByteArray := s.extract 0 2 ++ ⟨#[32]⟩ ++ s.extract 2 4 ++ ⟨#[32]⟩ ++ s.extract 4 8 ++ ⟨#[32]⟩ ++ s.extract 8 11 ++ ⟨#[45]⟩ ++ s.extract 11 12
def cutS (t : ByteArray) : ByteArray := t.extract 0 2 ++ t.extract 3 5 ++ t.extract 6 10 ++ t.extract 11 14 ++ t.extract 15 16
def formatR (s : ByteArray) : ByteArray × Int := if validR s = 0 then (fmtS s, 0) else (⟨#[]⟩, validR s)
/-- The form of a text. -/
def shp (t : ByteArray) : Bool := decide (t.size = 16 ∧ (t.data.toList.getD 2 0).toNat = 32 ∧ (t.data.toList.getD 5 0).toNat = 32 ∧ (t.data.toList.getD 10 0).toNat = 32 ∧ (t.data.toList.getD 14 0).toNat = 45)
def parseR (t : ByteArray) : ByteArray × Int :=
  if shp t = true then (if dgs (cutS t) 12 = true then (if validR (cutS t) = 0 then (cutS t, 0) else (⟨#[]⟩, validR (cutS t))) else (⟨#[]⟩, 6)) else (⟨#[]⟩, 6)

set_option maxHeartbeats 400000 in
theorem rformat_any (s : ByteArray) (w : World) :
    Calls Try.prog 11 #[.string s] w fun e w' => e = .returned (RS (formatR s)) ∧ ∃ n, w' = w.drewN n := by
  by_cases hv : validR s = 0
  · obtain ⟨hz, hd, ho⟩ := validR_size hv
    have HF : Hid (formatR s = (fmtS s, 0)) := Lib.hid (if_pos hv)
    have h1 : (12 : Int) ≤ (s.size : Int) := by omega
    have h2 : (11 : Int) ≤ (s.size : Int) := by omega
    have h3 : (8 : Int) ≤ (s.size : Int) := by omega
    have h4 : (4 : Int) ≤ (s.size : Int) := by omega
    have h5 : (2 : Int) ≤ (s.size : Int) := by omega
    have ev : (validR s != 0) = false := by simp [hv]
    clear hd ho
    go_enter Try.func11, Try.ntmps11
    go_wp2_with fail
    refine (rvalid_any _ _).mono ?_
    rintro e w' ⟨rfl, n, rfl⟩
    go_wp2_with fail
    go_quiet (fail)
    go_wp2_with fail
    go_ret2
    exact ⟨ret_rs HF.out, ⟨_, by rw [World.drewN_drewN]⟩⟩
  · have HF : Hid (formatR s = (⟨#[]⟩, validR s)) := Lib.hid (if_neg hv)
    have ev : (validR s != 0) = true := by simp [hv]
    clear hv
    go_enter Try.func11, Try.ntmps11
    go_wp2_with fail
    refine (rvalid_any _ _).mono ?_
    rintro e w' ⟨rfl, n, rfl⟩
    go_wp2_with fail
    go_ret2
    exact ⟨ret_rs HF.out, ⟨_, rfl⟩⟩

theorem shp_mk {t : ByteArray} (h : t.size = 16) (h2 : (t[2]'(by omega)).toNat = 32) (h5 : (t[5]'(by omega)).toNat = 32) (h10 : (t[10]'(by omega)).toNat = 32) (h14 : (t[14]'(by omega)).toNat = 45) : shp t = true := by
  unfold shp
  rw [getD_byte t 2 (by omega), getD_byte t 5 (by omega), getD_byte t 10 (by omega), getD_byte t 14 (by omega)]
  exact decide_eq_true ⟨h, h2, h5, h10, h14⟩
theorem shp_no {t : ByteArray} (h : t.size ≠ 16) : shp t = false := decide_eq_false (fun g => h g.1)
theorem shp_no' {t : ByteArray} (h : t.size = 16) (g : ¬ ((t[2]'(by omega)).toNat = 32 ∧ (t[5]'(by omega)).toNat = 32 ∧ (t[10]'(by omega)).toNat = 32 ∧ (t[14]'(by omega)).toNat = 45)) : shp t = false := by
  unfold shp
  rw [getD_byte t 2 (by omega), getD_byte t 5 (by omega), getD_byte t 10 (by omega), getD_byte t 14 (by omega)]
  exact decide_eq_false (fun k => g k.2)

set_option maxHeartbeats 400000 in
theorem rparse_bad (t : ByteArray) (w : World) (h : shp t = false) :
    Calls Try.prog 26 #[.string t] w fun e w' => e = .returned (RS (⟨#[]⟩, 6)) ∧ ∃ n, w' = w.drewN n := by
  by_cases hz : t.size = 16
  · have k2 : 2 < t.size := by omega
    have k5 : 5 < t.size := by omega
    have k10 : 10 < t.size := by omega
    have k14 : 14 < t.size := by omega
    by_cases c2 : t[2].toNat = 32
    · by_cases c5 : t[5].toNat = 32
      · by_cases c10 : t[10].toNat = 32
        · by_cases c14 : t[14].toNat = 45
          · rw [shp_mk hz c2 c5 c10 c14] at h; cases h
          · clear h
            go_enter Try.func26, Try.ntmps26
            go_wp2_with fail
            go_ret2
            exact ⟨rfl, ⟨0, rfl⟩⟩
        · clear h
          go_enter Try.func26, Try.ntmps26
          go_wp2_with fail
          go_ret2
          exact ⟨rfl, ⟨0, rfl⟩⟩
      · clear h
        go_enter Try.func26, Try.ntmps26
        go_wp2_with fail
        go_ret2
        exact ⟨rfl, ⟨0, rfl⟩⟩
    · clear h
      go_enter Try.func26, Try.ntmps26
      go_wp2_with fail
      go_ret2
      exact ⟨rfl, ⟨0, rfl⟩⟩
  · have hne : ((t.size : Int) != 16) = true := by rw [bne_iff_ne]; omega
    clear h hz
    go_enter Try.func26, Try.ntmps26
    go_wp2_with fail
    go_ret2
    exact ⟨rfl, ⟨0, rfl⟩⟩

theorem shp_t {t : ByteArray} (h : shp t = true) : ∃ hz : t.size = 16, (t[2]'(by omega)).toNat = 32 ∧ (t[5]'(by omega)).toNat = 32 ∧ (t[10]'(by omega)).toNat = 32 ∧ (t[14]'(by omega)).toNat = 45 := by
  have g : t.size = 16 ∧ (t.data.toList.getD 2 0).toNat = 32 ∧ (t.data.toList.getD 5 0).toNat = 32 ∧ (t.data.toList.getD 10 0).toNat = 32 ∧ (t.data.toList.getD 14 0).toNat = 45 := of_decide_eq_true h
  obtain ⟨hz, g2, g5, g10, g14⟩ := g
  rw [getD_byte t 2 (by omega)] at g2
  rw [getD_byte t 5 (by omega)] at g5
  rw [getD_byte t 10 (by omega)] at g10
  rw [getD_byte t 14 (by omega)] at g14
  exact ⟨hz, g2, g5, g10, g14⟩

set_option maxHeartbeats 400000 in
theorem rparse_form (t : ByteArray) (w : World) (h : shp t = true) (hd : dgs (cutS t) 12 = false) :
    Calls Try.prog 26 #[.string t] w fun e w' => e = .returned (RS (⟨#[]⟩, 6)) ∧ ∃ n, w' = w.drewN n := by
  obtain ⟨hz, c2, c5, c10, c14⟩ := shp_t h
  have k1 : (15 : Int) ≤ (t.size : Int) := by omega
  have k2 : (2 : Int) ≤ (t.size : Int) := by omega
  have k3 : (5 : Int) ≤ (t.size : Int) := by omega
  have k4 : (10 : Int) ≤ (t.size : Int) := by omega
  have k5 : (14 : Int) ≤ (t.size : Int) := by omega
  have HZ := Lib.hid h
  clear h
  go_enter Try.func26, Try.ntmps26
  go_wp2_with fail
  go_quiet (fail)
  have HC : Hid (cutS t = t.extract 0 2 ++ t.extract 3 5 ++ t.extract 6 10 ++ t.extract 11 14 ++ t.extract 15 16) := Lib.hid rfl
  go_wp2_with fail
  rw [← HC.out]
  refine (digits_any _ _ _ (by omega) (by omega)).mono ?_
  rintro e w' ⟨rfl, rfl⟩
  go_wp2_with fail
  go_ret2
  exact ⟨rfl, ⟨_, rfl⟩⟩

set_option maxHeartbeats 400000 in
theorem rparse_sum (t : ByteArray) (w : World) (h : shp t = true) (hd : dgs (cutS t) 12 = true) (hv : (validR (cutS t) != 0) = true) :
    Calls Try.prog 26 #[.string t] w fun e w' => e = .returned (RS (⟨#[]⟩, validR (cutS t))) ∧ ∃ n, w' = w.drewN n := by
  obtain ⟨hz, c2, c5, c10, c14⟩ := shp_t h
  have k1 : (15 : Int) ≤ (t.size : Int) := by omega
  have k2 : (2 : Int) ≤ (t.size : Int) := by omega
  have k3 : (5 : Int) ≤ (t.size : Int) := by omega
  have k4 : (10 : Int) ≤ (t.size : Int) := by omega
  have k5 : (14 : Int) ≤ (t.size : Int) := by omega
  have HZ := Lib.hid h
  clear h
  go_enter Try.func26, Try.ntmps26
  go_wp2_with fail
  go_quiet (fail)
  have HC : Hid (cutS t = t.extract 0 2 ++ t.extract 3 5 ++ t.extract 6 10 ++ t.extract 11 14 ++ t.extract 15 16) := Lib.hid rfl
  go_wp2_with fail
  rw [← HC.out]
  refine (digits_any _ _ _ (by omega) (by omega)).mono ?_
  rintro e w' ⟨rfl, rfl⟩
  go_wp2_with fail
  refine (rvalid_any _ _).mono ?_
  rintro e w' ⟨rfl, n, rfl⟩
  go_wp2_with fail
  go_ret2
  exact ⟨rfl, ⟨_, rfl⟩⟩

set_option maxHeartbeats 400000 in
theorem rparse_ok (t : ByteArray) (w : World) (h : shp t = true) (hd : dgs (cutS t) 12 = true) (hv : (validR (cutS t) != 0) = false) :
    Calls Try.prog 26 #[.string t] w fun e w' => e = .returned (RS (cutS t, 0)) ∧ ∃ n, w' = w.drewN n := by
  obtain ⟨hz, c2, c5, c10, c14⟩ := shp_t h
  have k1 : (15 : Int) ≤ (t.size : Int) := by omega
  have k2 : (2 : Int) ≤ (t.size : Int) := by omega
  have k3 : (5 : Int) ≤ (t.size : Int) := by omega
  have k4 : (10 : Int) ≤ (t.size : Int) := by omega
  have k5 : (14 : Int) ≤ (t.size : Int) := by omega
  have HZ := Lib.hid h
  clear h
  go_enter Try.func26, Try.ntmps26
  go_wp2_with fail
  go_quiet (fail)
  have HC : Hid (cutS t = t.extract 0 2 ++ t.extract 3 5 ++ t.extract 6 10 ++ t.extract 11 14 ++ t.extract 15 16) := Lib.hid rfl
  go_wp2_with fail
  rw [← HC.out]
  refine (digits_any _ _ _ (by omega) (by omega)).mono ?_
  rintro e w' ⟨rfl, rfl⟩
  go_wp2_with fail
  refine (rvalid_any _ _).mono ?_
  rintro e w' ⟨rfl, n, rfl⟩
  go_wp2_with fail
  go_ret2
  exact ⟨rfl, ⟨_, rfl⟩⟩

theorem rparse_any (t : ByteArray) (w : World) :
    Calls Try.prog 26 #[.string t] w fun e w' => e = .returned (RS (parseR t)) ∧ ∃ n, w' = w.drewN n := by
  unfold parseR
  cases h : shp t
  · rw [if_neg (by simp)]; exact rparse_bad t w h
  · rw [if_pos rfl]
    cases hd : dgs (cutS t) 12
    · rw [if_neg (by simp)]; exact rparse_form t w h hd
    · rw [if_pos rfl]
      by_cases hv : validR (cutS t) = 0
      · rw [if_pos hv]; exact rparse_ok t w h hd (by simp [hv])
      · rw [if_neg hv]; exact rparse_sum t w h hd (by simp [hv])

end Go.Proofs.Ytmhjdpmibfkhnaa
