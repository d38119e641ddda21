/-
  Stage 2: the program's Parse.
-/
import Derived.Test.YtmhjdpmibfkhnaaPFmt
import Derived.Test.YtmhjdpmibfkhnaaIns
set_option linter.unusedSimpArgs false
set_option linter.unusedVariables false
namespace Go.Proofs.Ytmhjdpmibfkhnaa
open Go.RowKit

set_option maxHeartbeats 400000 in
theorem pparse_size (t : ByteArray) (w : World) (h : t.size ≠ 16) :
    Calls Try.prog 20 #[.string t] w fun e w' => e = .returned (RS (⟨#[]⟩, 6)) ∧ ∃ n, w' = w.drewN n := by
  have hne : ((t.size : Int) != 16) = true := by rw [bne_iff_ne]; omega
  clear h
  go_enter Try.func20, Try.ntmps20
  go_wp2_with fail
  go_ret2
  exact ⟨rfl, ⟨0, rfl⟩⟩

set_option maxHeartbeats 400000 in
theorem pparse_form (t : ByteArray) (w : World) (h : t.size = 16) (hd : dgs (cutS t) 12 = false) :
    Calls Try.prog 20 #[.string t] w fun e w' => e = .returned (RS (⟨#[]⟩, 6)) ∧ ∃ n, w' = w.drewN n := by
  have k1 : (15 : Int) ≤ (t.size : Int) := by omega
  have k2 : (2 : Int) ≤ (t.size : Int) := by omega
  have k3 : (5 : Int) ≤ (t.size : Int) := by omega
  have k4 : (10 : Int) ≤ (t.size : Int) := by omega
  have k5 : (14 : Int) ≤ (t.size : Int) := by omega
  have hne : ((t.size : Int) != 16) = false := by rw [bne_eq_false_iff_eq]; omega
  have HC : Hid (cutS t = t.extract 0 2 ++ t.extract 3 5 ++ t.extract 6 10 ++ t.extract 11 14 ++ t.extract 15 16) := Lib.hid rfl
  go_enter Try.func20, Try.ntmps20
  go_wp2_with fail
  go_quiet (fail)
  go_wp2_with fail
  rw [← HC.out]
  refine (pdigits_any _ _ _ (by omega) (by omega)).mono ?_
  rintro e w' ⟨rfl, rfl⟩
  go_wp2_with fail
  go_ret2
  exact ⟨rfl, ⟨_, rfl⟩⟩

set_option maxHeartbeats 400000 in
theorem pparse_sep (t : ByteArray) (w : World) (h : t.size = 16) (hd : dgs (cutS t) 12 = true) (hs : shp t = false) :
    Calls Try.prog 20 #[.string t] w fun e w' => e = .returned (RS (⟨#[]⟩, 6)) ∧ ∃ n, w' = w.drewN n := by
  have k1 : (15 : Int) ≤ (t.size : Int) := by omega
  have k2 : (2 : Int) ≤ (t.size : Int) := by omega
  have k3 : (5 : Int) ≤ (t.size : Int) := by omega
  have k4 : (10 : Int) ≤ (t.size : Int) := by omega
  have k5 : (14 : Int) ≤ (t.size : Int) := by omega
  have hne : ((t.size : Int) != 16) = false := by rw [bne_eq_false_iff_eq]; omega
  have HC : Hid (cutS t = t.extract 0 2 ++ t.extract 3 5 ++ t.extract 6 10 ++ t.extract 11 14 ++ t.extract 15 16) := Lib.hid rfl
  have hz := cut_size h
  have he : (fmtS (cutS t)).toList ≠ t.toList := fun g => by
    have g2 := (fmt_cut h).1 (bytes_inj g)
    rw [hs] at g2; cases g2
  have he1 : ((fmtS (cutS t)).toList == t.toList) = false := beq_eq_false_iff_ne.2 he
  have he2 : ((fmtS (cutS t)).toList != t.toList) = true := bne_iff_ne.2 he
  clear he hs
  go_enter Try.func20, Try.ntmps20
  go_wp2_with fail
  go_quiet (fail)
  go_wp2_with fail
  rw [← HC.out]
  refine (pdigits_any _ _ _ (by omega) (by omega)).mono ?_
  rintro e w' ⟨rfl, rfl⟩
  go_wp2_with fail
  refine (pgroup_any _ _ hz).mono ?_
  rintro e w' ⟨rfl, n, rfl⟩
  go_wp2_with fail
  go_ret2
  exact ⟨rfl, ⟨_, rfl⟩⟩

set_option maxHeartbeats 400000 in
theorem pparse_sum (t : ByteArray) (w : World) (h : t.size = 16) (hd : dgs (cutS t) 12 = true) (hs : shp t = true) (hv : okP (cutS t) = false) :
    Calls Try.prog 20 #[.string t] w fun e w' => e = .returned (RS (⟨#[]⟩, 9)) ∧ ∃ n, w' = w.drewN n := by
  have k1 : (15 : Int) ≤ (t.size : Int) := by omega
  have k2 : (2 : Int) ≤ (t.size : Int) := by omega
  have k3 : (5 : Int) ≤ (t.size : Int) := by omega
  have k4 : (10 : Int) ≤ (t.size : Int) := by omega
  have k5 : (14 : Int) ≤ (t.size : Int) := by omega
  have hne : ((t.size : Int) != 16) = false := by rw [bne_eq_false_iff_eq]; omega
  have HC : Hid (cutS t = t.extract 0 2 ++ t.extract 3 5 ++ t.extract 6 10 ++ t.extract 11 14 ++ t.extract 15 16) := Lib.hid rfl
  have hz := cut_size h
  have he : fmtS (cutS t) = t := (fmt_cut h).2 hs
  have HD := Lib.hid (dgs_t hd).2
  have hz2 : (cutS t).size ≤ 1000 := by omega
  clear hs
  go_enter Try.func20, Try.ntmps20
  go_wp2_with fail
  go_quiet (fail)
  go_wp2_with fail
  rw [← HC.out]
  refine (pdigits_any _ _ _ (by omega) (by omega)).mono ?_
  rintro e w' ⟨rfl, rfl⟩
  go_wp2_with fail
  refine (pgroup_any _ _ hz).mono ?_
  rintro e w' ⟨rfl, n, rfl⟩
  rw [he]
  go_wp2_with fail
  refine (pchecks_any _ _ hz2 HD.out).mono ?_
  rintro e w' ⟨rfl, rfl⟩
  go_wp2_with fail
  go_ret2
  exact ⟨rfl, ⟨_, rfl⟩⟩

set_option maxHeartbeats 400000 in
theorem pparse_ok (t : ByteArray) (w : World) (h : t.size = 16) (hd : dgs (cutS t) 12 = true) (hs : shp t = true) (hv : okP (cutS t) = true) :
    Calls Try.prog 20 #[.string t] w fun e w' => e = .returned (RS (cutS t, 0)) ∧ ∃ n, w' = w.drewN n := by
  have k1 : (15 : Int) ≤ (t.size : Int) := by omega
  have k2 : (2 : Int) ≤ (t.size : Int) := by omega
  have k3 : (5 : Int) ≤ (t.size : Int) := by omega
  have k4 : (10 : Int) ≤ (t.size : Int) := by omega
  have k5 : (14 : Int) ≤ (t.size : Int) := by omega
  have hne : ((t.size : Int) != 16) = false := by rw [bne_eq_false_iff_eq]; omega
  have HC : Hid (cutS t = t.extract 0 2 ++ t.extract 3 5 ++ t.extract 6 10 ++ t.extract 11 14 ++ t.extract 15 16) := Lib.hid rfl
  have hz := cut_size h
  have he : fmtS (cutS t) = t := (fmt_cut h).2 hs
  have HD := Lib.hid (dgs_t hd).2
  have hz2 : (cutS t).size ≤ 1000 := by omega
  clear hs
  go_enter Try.func20, Try.ntmps20
  go_wp2_with fail
  go_quiet (fail)
  go_wp2_with fail
  rw [← HC.out]
  refine (pdigits_any _ _ _ (by omega) (by omega)).mono ?_
  rintro e w' ⟨rfl, rfl⟩
  go_wp2_with fail
  refine (pgroup_any _ _ hz).mono ?_
  rintro e w' ⟨rfl, n, rfl⟩
  rw [he]
  go_wp2_with fail
  refine (pchecks_any _ _ hz2 HD.out).mono ?_
  rintro e w' ⟨rfl, rfl⟩
  go_wp2_with fail
  go_ret2
  exact ⟨rfl, ⟨_, rfl⟩⟩

theorem pparse_any (t : ByteArray) (w : World) :
    Calls Try.prog 20 #[.string t] w fun e w' => e = .returned (RS (parseR t)) ∧ ∃ n, w' = w.drewN n := by
  unfold parseR
  by_cases hz : t.size = 16
  · cases hd : dgs (cutS t) 12
    · have g := pparse_form t w hz hd
      cases hs : shp t <;> simpa using g
    · cases hs : shp t
      · have g := pparse_sep t w hz hd hs
        simpa using g
      · have ev : validR (cutS t) = if okP (cutS t) = true then 0 else 9 := by unfold validR; rw [if_pos hd, okP_12 (cut_size hz)]
        cases ho : okP (cutS t)
        · have g := pparse_sum t w hz hd hs ho
          rw [ev, ho]; simpa using g
        · have g := pparse_ok t w hz hd hs ho
          rw [ev, ho]; simpa using g
  · have g := pparse_size t w hz
    rw [shp_no hz]; simpa using g

end Go.Proofs.Ytmhjdpmibfkhnaa
