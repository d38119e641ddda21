/-
  Stage 9: the walk of LayoutText.
-/
import Derived.Test.YtoikjkgepfemjaaGreatDoorLLines
import Derived.Test.YtoikjkgepfemjaaGreatDoorMkDigits
import Derived.Test.YtoikjkgepfemjaaGreatDoorByts
set_option linter.unusedSimpArgs false
set_option linter.unusedVariables false
namespace Go.Proofs.YtoikjkgepfemjaaGreatDoor
open Go.RowKit Go.Lib

def tA : List UInt8 := [99, 114, 101, 115, 116, 32, 99]
def tB : List UInt8 := [116, 114, 97, 99, 107, 32, 116, 32, 99, 32, 49, 32, 48, 32, 48]
def tPre : List UInt8 := [99, 114, 101, 115, 116, 32, 99, 10, 116, 114, 97, 99, 107, 32, 116, 32, 99, 32, 49, 32, 48, 32, 48, 10, 35]
def elT : El := ⟨4, ⟨#[116]⟩, 0, 0, 1, 0, 0, 0⟩
def fT : Idx := nextI (fun _ => none) 0 (some el0)
set_option maxRecDepth 1000000 in
theorem lnA : lineE (fun _ => none) (wdsB (bs tA)) = (0, some el0) := by decide +kernel
set_option maxRecDepth 1000000 in
theorem lnB : lineE fT (wdsB (bs tB)) = (0, some elT) := by decide +kernel
theorem lines_text (k : Nat) : linesE [] (fun _ => none) 0 (lnsB (bs (tPre ++ List.replicate k 120))) = ([el0, elT], 0, 0) := by
  have e : tPre ++ List.replicate k 120 = tA ++ 10 :: (tB ++ 10 :: (35 :: List.replicate k 120)) := rfl
  have hc : (10 : UInt8) ∉ (35 :: List.replicate k 120 : List UInt8) := by
    intro h
    rcases List.mem_cons.1 h with h | h
    · cases h
    · have := (List.mem_replicate.1 h).2
      cases this
  rw [e, lnsB_hit (by decide), lnsB_hit (by decide), lnsB_last hc]
  have hA : (lineE (fun _ => none) (wdsB (bs tA))).1 = 0 := by rw [lnA]
  rw [linesE_ok hA, lnA]
  have hB : (lineE (nextI (fun _ => none) ([] : List El).length (some el0)) (wdsB (bs tB))).1 = 0 := by
    show (lineE fT (wdsB (bs tB))).1 = 0
    rw [lnB]
  rw [linesE_ok hB]
  have hB2 : lineE (nextI (fun _ => none) ([] : List El).length (some el0)) (wdsB (bs tB)) = (0, some elT) := lnB
  rw [hB2]
  have hC : ∀ f, lineE f (wdsB (bs (35 :: List.replicate k 120))) = (0, none) := fun f => lineE_com (com_hash rfl)
  rw [linesE_ok (by rw [hC]), hC]
  rfl
theorem parse_text (k : Nat) (h : k ≤ 16359) : parseE (bs (tPre ++ List.replicate k 120)) = ([el0, elT], 0, 0) := by
  have hs : (bs (tPre ++ List.replicate k 120)).size = 25 + k := by
    show (tPre ++ List.replicate k 120).length = _
    rw [List.length_append, List.length_replicate]; rfl
  unfold parseE
  rw [if_neg (by rw [hs]; omega), lines_text, if_neg (fun g => g rfl), if_neg (fun g => g (by decide +kernel))]
theorem parse_big (k : Nat) (h : 16360 ≤ k) : parseE (bs (tPre ++ List.replicate k 120)) = ([], 0, 3) := by
  have hs : (bs (tPre ++ List.replicate k 120)).size = 25 + k := by
    show (tPre ++ List.replicate k 120).length = _
    rw [List.length_append, List.length_replicate]; rfl
  unfold parseE
  rw [if_pos (by rw [hs]; omega)]
theorem wrap_tmod3L (n : Int) : wrap64 (n.tmod 3 + 3) = n.tmod 3 + 3 := by
  have h1 := tmod_bd n 3 (by decide)
  exact IntWalk.wrap64_in _ (by omega)
theorem rem3 (n : Int) : ∃ N : Nat, (wrap64 (n.tmod 3 + 3)).tmod 3 = (N : Int) ∧ N ≤ 2 := by
  rw [wrap_tmod3L]
  have h1 := tmod_bd n 3 (by decide)
  have h2 := tmod_bd (n.tmod 3 + 3) 3 (by decide)
  have h3 : 0 ≤ (n.tmod 3 + 3).tmod 3 := Int.tmod_nonneg _ (by omega)
  exact ⟨((n.tmod 3 + 3).tmod 3).toNat, by omega, by omega⟩
/-- The bytes while they are written. -/
def partX (m k : Nat) : List Int := List.replicate k 120 ++ List.replicate (m - k) 0
theorem partX_len {m k : Nat} (h : k ≤ m) : (partX m k).length = m := by unfold partX; simp; omega
theorem partX_set {m k : Nat} (h : k < m) : (partX m k).set k 120 = partX m (k + 1) := by
  unfold partX
  rw [List.set_append_right _ _ (by simp), List.length_replicate, Nat.sub_self]
  obtain ⟨q, hq⟩ : ∃ q, m - k = q + 1 := ⟨m - k - 1, by omega⟩
  rw [hq, show m - (k + 1) = q by omega, List.replicate_succ, List.set_cons_zero, List.replicate_succ', List.append_assoc]; rfl
theorem str_x (m : Nat) : strOfNums (partX m m) = bs (List.replicate m 120) := by
  unfold partX
  rw [Nat.sub_self]
  simp [strOfNums, bs]
set_option maxRecDepth 100000 in
set_option maxHeartbeats 1600000 in
theorem text_walk (n : Int) (w : World) (D : Dor w) (bd : -9223372036854775808 ≤ n ∧ n ≤ 9223372036854775807) : Calls Tryz.prog 4 #[.int .i64 n] w fun e w' => e = .returned (.bool true) ∧ Below w.heap.size w w' := by
  have HD := Lib.hid D
  clear D
  go_enter Tryz.func4, Tryz.ntmps4
  go_upto_region 2 with fail
  obtain ⟨N, hN, hN2⟩ := rem3 n
  rw [hN]
  generalize wrap64 (n.tmod 3 + 3) = y1
  generalize n.tmod 3 = y0
  have hw : wrap64 (16383 + (N : Int)) = 16383 + (N : Int) := IntWalk.wrap64_in _ (by omega)
  rw [hw]
  obtain ⟨m, hm⟩ : ∃ m, m = 16358 + N := ⟨_, rfl⟩
  have hm1 : (16383 : Int) + (N : Int) = (m : Int) + 25 := by omega
  rw [hm1]
  have hmb : 16358 ≤ m ∧ m ≤ 16360 := by omega
  have hmk := make_bytes w m (by omega)
  have hsub : (m : Int) + 25 - 25 = (m : Int) := by omega
  have HB0 := Lib.hid (Byts.made (w := w) (n := m) (T := 5) w.heap.size rfl)
  have b1 : Below w.heap.size w (w.alloc (.cells (madeCells #[.int .u8 0] m) 5)) := (Below.refl _ _).alloc (Nat.le_refl _) _
  have HB1 := Lib.hid b1
  clear hN hw hm hm1 hN2 b1 bd
  go_upto_region 5 with fail
  generalize w.alloc (.cells (madeCells #[.int .u8 0] m) 5) = w1 at HB0 HB1 ⊢
  go_loopw [21] (fun i wr => ∃ k : Nat, k ≤ m ∧ i = .int .i64 k ∧ Hid (Byts wr w.heap.size (partX m k)) ∧ Hid (Below w.heap.size w wr)) (fun i _ => m - (intOf i).toNat)
  case atStart => exact ⟨0, by omega, rfl, Lib.hid (by have := HB0.out; unfold partX; rw [Nat.sub_zero]; exact this), HB1⟩
  case round =>
    clear HB0 HB1 hmk
    obtain ⟨k, hk, rfl, Y, B⟩ := hrel
    by_cases hlt : k < m
    · have hcl := Y.out.cs k (by rw [partX_len hk]; exact hlt)
      have hfz := Y.out.fs k (by rw [partX_len hk]; exact hlt)
      have HY := Lib.hid (Y.out.store k (by rw [partX_len hk]; exact hlt) 120)
      rw [partX_set hlt] at HY
      have HB := Lib.hid (B.out.setCell (p := ⟨w.heap.size, k, none⟩) (Nat.le_refl _) (.int .u8 120))
      go_wp2_with fail
      go_roundw
      case rel => exact ⟨k + 1, by omega, by go_num, HY, HB⟩
      case measure => simp [intOf]; omega
    · obtain rfl : k = m := by omega
      have hcv := fun W (h : Byts W w.heap.size (partX k k)) => h.str (P := Tryz.prog) (cap := k) 34 5 9 Tryz.underlying34 Tryz.underlying5 Tryz.underlying9
      have hcv1 := hcv wr Y.out
      rw [partX_len (Nat.le_refl _), str_x] at hcv1
      have hsz : (bs (List.replicate k 120)).size = k := by show (List.replicate k (120 : UInt8)).length = k; simp
      have hcat : (bs tPre) ++ bs (List.replicate k 120) = bs (tPre ++ List.replicate k 120) := ba_ext (by rw [ByteArray.data_append, Array.toList_append])
      have HP := Lib.hid (parse_any (bs (tPre ++ List.replicate k 120)) wr (by show (tPre ++ List.replicate k 120).length ≤ _; rw [List.length_append, List.length_replicate]; have : tPre.length = 25 := rfl; omega) (HD.out.below B.out))
      have HPT := Lib.hid (fun h => parse_text k h)
      have HPB := Lib.hid (fun h => parse_big k h)
      have HCT := Lib.hid hcat
      generalize bs (List.replicate k 120) = xs at hcv1 hsz hcat HCT
      clear hcv hlt hcat
      rw [← HCT.out] at HP
      go_wp2_with fail
      refine HP.out.mono ?_
      rintro e w2 ⟨v, rfl, O2, B2⟩
      have HB2 := Lib.hid (B.out.trans (B2.mono B.out.size))
      have HSN := Lib.hid (sane_any w2 (HD.out.below HB2.out))
      rw [HCT.out] at O2 ⊢
      clear B2 HP HCT
      by_cases hbig : 16360 ≤ k
      · have hk1 : (16384 : Int) < (k : Int) + 25 := by omega
        rw [HPB.out hbig] at O2 ⊢
        obtain ⟨A, c, rfl, RR, -, -, -, -⟩ := O2.full
        clear O2 RR HPT HPB hbig
        go_wp2_with fail
        refine HSN.out.mono ?_
        rintro e w3 ⟨rfl, B3⟩
        have HB3 := Lib.hid (HB2.out.trans (B3.mono HB2.out.size))
        clear B3
        go_wp2_with fail
        go_ret
        exact ⟨rfl, HB3.out⟩
      · have hk1 : ¬ (16384 : Int) < (k : Int) + 25 := by omega
        rw [HPT.out (by omega)] at O2 ⊢
        obtain ⟨A, c, rfl, RR, -, -, -, -⟩ := O2.full
        clear O2 RR HPT HPB hbig
        go_wp2_with fail
        refine HSN.out.mono ?_
        rintro e w3 ⟨rfl, B3⟩
        have HB3 := Lib.hid (HB2.out.trans (B3.mono HB2.out.size))
        clear B3
        go_wp2_with fail
        go_ret
        exact ⟨rfl, HB3.out⟩
end Go.Proofs.YtoikjkgepfemjaaGreatDoor
