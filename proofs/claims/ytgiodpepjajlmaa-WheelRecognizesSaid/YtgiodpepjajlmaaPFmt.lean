/-
  Stage 2: the program's Digit, Valid, Kind, Format, Parse.
-/
import Derived.Test.YtgiodpepjajlmaaFmt
import Derived.Test.YtgiodpepjajlmaaPStr
set_option linter.unusedSimpArgs false
set_option linter.unusedVariables false
namespace Go.Proofs.Ytgiodpepjajlmaa
open Go.RowKit

set_option maxHeartbeats 400000 in
theorem pvalid_any (s : ByteArray) (w : World) :
    Calls Try.prog 47 #[.string s] w fun e w' => e = .returned (.int .i64 (validS s)) ∧ w = w' := by
  cases hs : dgs s 12
  · have HF : Hid (validS s = 11) := Lib.hid (by unfold validS; rw [hs]; rfl)
    go_enter Try.func47, Try.ntmps47
    go_wp2_with fail
    refine (pdigits_any _ _ _ (by omega) (by omega)).mono ?_
    rintro e w' ⟨rfl, rfl⟩
    go_wp2_with fail
    go_ret
    exact ⟨ret_int HF.out.symm, rfl⟩
  · obtain ⟨hz, hd⟩ := dgs_t hs
    have HD := Lib.hid hd
    have HE : Hid (validS s = if okP s = true then 0 else 9) := Lib.hid (by unfold validS; rw [if_pos hs, okP_12 hz])
    have hz2 : s.size ≤ 1000 := by omega
    have hs' := Lib.hid hs
    clear hz hd
    cases ho : okP s
    · have HF : Hid (validS s = 9) := Lib.hid (by rw [HE.out, ho]; rfl)
      go_enter Try.func47, Try.ntmps47
      go_wp2_with fail
      refine (pdigits_any _ _ _ (by omega) (by omega)).mono ?_
      rintro e w' ⟨rfl, rfl⟩
      go_wp2_with fail
      refine (pchecks_any _ _ hz2 HD.out).mono ?_
      rintro e w' ⟨rfl, rfl⟩
      go_wp2_with fail
      go_ret
      exact ⟨ret_int HF.out.symm, rfl⟩
    · have HF : Hid (validS s = 0) := Lib.hid (by rw [HE.out, ho]; rfl)
      go_enter Try.func47, Try.ntmps47
      go_wp2_with fail
      refine (pdigits_any _ _ _ (by omega) (by omega)).mono ?_
      rintro e w' ⟨rfl, rfl⟩
      go_wp2_with fail
      refine (pchecks_any _ _ hz2 HD.out).mono ?_
      rintro e w' ⟨rfl, rfl⟩
      go_wp2_with fail
      go_ret
      exact ⟨ret_int HF.out.symm, rfl⟩

set_option maxHeartbeats 400000 in
theorem pkind_any (s : ByteArray) (w : World) :
    Calls Try.prog 34 #[.string s] w fun e w' => e = .returned (R2 (kindR s)) ∧ w = w' := by
  by_cases hv : validS s = 0
  · obtain ⟨hz, hd, ho⟩ := validR_size hv
    have hk : 4 < s.size := by omega
    have HF : Hid (kindR s = (knd s[4], 0)) := Lib.hid (by unfold kindR; rw [if_pos hv, getD_byte s 4 hk])
    have HV := Lib.hid hv
    have ev : (validS s != 0) = false := by simp [hv]
    clear hv hd ho hz
    have fin : ∀ (v : Int), knd s[4] = v → kindR s = (v, 0) := fun v h => by rw [HF.out, h]
    have HFn := Lib.hid fin
    clear fin
    by_cases c0 : s[4].toNat = 55
    · have HC : Hid (knd s[4] = 1) := Lib.hid (by unfold knd; rw [c0]; rfl)
      go_enter Try.func34, Try.ntmps34
      go_wp2_with fail
      refine (pvalid_any _ _).mono ?_
      rintro e w' ⟨rfl, rfl⟩
      go_wp2_with fail
      go_ret2
      exact ⟨ret_r2 (HFn.out _ HC.out), rfl⟩
    by_cases c1 : s[4].toNat = 56
    · have HC : Hid (knd s[4] = 1) := Lib.hid (by unfold knd; rw [c1]; rfl)
      go_enter Try.func34, Try.ntmps34
      go_wp2_with fail
      refine (pvalid_any _ _).mono ?_
      rintro e w' ⟨rfl, rfl⟩
      go_wp2_with fail
      go_ret2
      exact ⟨ret_r2 (HFn.out _ HC.out), rfl⟩
    by_cases c2 : s[4].toNat = 50
    · have HC : Hid (knd s[4] = 2) := Lib.hid (by unfold knd; rw [c2]; rfl)
      go_enter Try.func34, Try.ntmps34
      go_wp2_with fail
      refine (pvalid_any _ _).mono ?_
      rintro e w' ⟨rfl, rfl⟩
      go_wp2_with fail
      go_ret2
      exact ⟨ret_r2 (HFn.out _ HC.out), rfl⟩
    by_cases c3 : s[4].toNat = 52
    · have HC : Hid (knd s[4] = 2) := Lib.hid (by unfold knd; rw [c3]; rfl)
      go_enter Try.func34, Try.ntmps34
      go_wp2_with fail
      refine (pvalid_any _ _).mono ?_
      rintro e w' ⟨rfl, rfl⟩
      go_wp2_with fail
      go_ret2
      exact ⟨ret_r2 (HFn.out _ HC.out), rfl⟩
    by_cases c4 : s[4].toNat = 57
    · have HC : Hid (knd s[4] = 3) := Lib.hid (by unfold knd; rw [c4]; rfl)
      go_enter Try.func34, Try.ntmps34
      go_wp2_with fail
      refine (pvalid_any _ _).mono ?_
      rintro e w' ⟨rfl, rfl⟩
      go_wp2_with fail
      go_ret2
      exact ⟨ret_r2 (HFn.out _ HC.out), rfl⟩
    · have HC : Hid (knd s[4] = 0) := Lib.hid (by unfold knd; rw [if_neg (by omega), if_neg (by omega), if_neg c4])
      go_enter Try.func34, Try.ntmps34
      go_wp2_with fail
      refine (pvalid_any _ _).mono ?_
      rintro e w' ⟨rfl, rfl⟩
      go_wp2_with fail
      go_ret2
      exact ⟨ret_r2 (HFn.out _ HC.out), rfl⟩
  · have HF : Hid (kindR s = (0, validS s)) := Lib.hid (by unfold kindR; rw [if_neg hv])
    have ev : (validS s != 0) = true := by simp [hv]
    clear hv
    go_enter Try.func34, Try.ntmps34
    go_wp2_with fail
    refine (pvalid_any _ _).mono ?_
    rintro e w' ⟨rfl, rfl⟩
    go_wp2_with fail
    go_ret2
    exact ⟨ret_r2 HF.out, rfl⟩

theorem byte_eq (a : UInt8) (n : Nat) (h : n < 256) : a = UInt8.ofNat n ↔ a.toNat = n := by
  constructor
  · rintro rfl; rw [UInt8.toNat_ofNat']; omega
  · intro e; apply UInt8.toNat_inj.1; rw [UInt8.toNat_ofNat', e]; omega

theorem sixteen {t : ByteArray} (h : t.size = 16) : ∃ b0 b1 b2 b3 b4 b5 b6 b7 b8 b9 b10 b11 b12 b13 b14 b15, t = ⟨#[b0, b1, b2, b3, b4, b5, b6, b7, b8, b9, b10, b11, b12, b13, b14, b15]⟩ := by
  obtain ⟨⟨l⟩⟩ := t
  have hl : l.length = 16 := h
  match l, hl with
  | [b0, b1, b2, b3, b4, b5, b6, b7, b8, b9, b10, b11, b12, b13, b14, b15], _ => exact ⟨_, _, _, _, _, _, _, _, _, _, _, _, _, _, _, _, rfl⟩

theorem bytes_ext {a b : ByteArray} (h : a.data.toList = b.data.toList) : a = b := ByteArray.ext (Array.toList_inj.1 h)
theorem cut_16 (b0 b1 b2 b3 b4 b5 b6 b7 b8 b9 b10 b11 b12 b13 b14 b15 : UInt8) :
    cutS ⟨#[b0, b1, b2, b3, b4, b5, b6, b7, b8, b9, b10, b11, b12, b13, b14, b15]⟩ = ⟨#[b0, b1, b3, b4, b6, b7, b8, b9, b11, b12, b13, b15]⟩ := by
  apply bytes_ext; unfold cutS; simp only [ByteArray.data_append, ByteArray.data_extract, Array.toList_append, Array.toList_extract]; rfl
theorem fmt_12 (b0 b1 b2 b3 b4 b5 b6 b7 b8 b9 b10 b11 : UInt8) :
    fmtS ⟨#[b0, b1, b2, b3, b4, b5, b6, b7, b8, b9, b10, b11]⟩ = ⟨#[b0, b1, 32, b2, b3, 32, b4, b5, b6, b7, 32, b8, b9, b10, 45, b11]⟩ := by
  apply bytes_ext; unfold fmtS; simp only [ByteArray.data_append, ByteArray.data_extract, Array.toList_append, Array.toList_extract]; rfl

theorem fmt_cut {t : ByteArray} (h : t.size = 16) : fmtS (cutS t) = t ↔ shp t = true := by
  obtain ⟨b0, b1, b2, b3, b4, b5, b6, b7, b8, b9, b10, b11, b12, b13, b14, b15, rfl⟩ := sixteen h
  rw [cut_16, fmt_12]
  constructor
  · intro e
    simp only [ByteArray.mk.injEq, Array.mk.injEq, List.cons.injEq, true_and, and_true] at e
    obtain ⟨rfl, rfl, rfl, rfl⟩ := e
    rfl
  · intro e
    have g := of_decide_eq_true e
    simp only [List.getD_cons_succ, List.getD_cons_zero] at g
    obtain ⟨_, g2, g5, g10, g14⟩ := g
    rw [(byte_eq _ 32 (by decide)).2 g2, (byte_eq _ 32 (by decide)).2 g5, (byte_eq _ 32 (by decide)).2 g10, (byte_eq _ 45 (by decide)).2 g14]
    rfl
theorem cut_size {t : ByteArray} (h : t.size = 16) : (cutS t).size = 12 := by
  obtain ⟨b0, b1, b2, b3, b4, b5, b6, b7, b8, b9, b10, b11, b12, b13, b14, b15, rfl⟩ := sixteen h
  rw [cut_16]; rfl
theorem fmt_size {s : ByteArray} (h : s.size = 12) : (fmtS s).size = 16 := by
  obtain ⟨⟨l⟩⟩ := s
  have hl : l.length = 12 := h
  match l, hl with
  | [b0, b1, b2, b3, b4, b5, b6, b7, b8, b9, b10, b11], _ => rw [fmt_12]; rfl
theorem cut_fmt {s : ByteArray} (h : s.size = 12) : cutS (fmtS s) = s := by
  obtain ⟨⟨l⟩⟩ := s
  have hl : l.length = 12 := h
  match l, hl with
  | [b0, b1, b2, b3, b4, b5, b6, b7, b8, b9, b10, b11], _ => rw [fmt_12, cut_16]

end Go.Proofs.Ytgiodpepjajlmaa
