/-
  Stage 10: the program's Common and Settings.
-/
import Derived.Test.YteeoecegpnmafaaDoorTFn2
import Derived.Test.YteeoecegpnmafaaDoorTMkLay
set_option linter.unusedSimpArgs false
set_option linter.unusedVariables false
namespace Go.Proofs.YteeoecegpnmafaaDoor
open Go.RowKit Go.Lib

/-- The last of zs that lies in the set bs. -/
def lastZ (bs : List Bool) (zs : List Int) : Int := zs.foldl (fun a x => if bs.getD x.toNat false = true then x else a) 0
theorem lastZ_snoc (bs : List Bool) (zs : List Int) (z : Int) : lastZ bs (zs ++ [z]) = if bs.getD z.toNat false = true then z else lastZ bs zs := by
  unfold lastZ; rw [List.foldl_append]; rfl
def comZ (l : List El) (i k : Int) : Int := lastZ (onZ l k) (wayZ l i)
def commE (er v : Int) : Int := if er = 0 then v else 0
def ComPost (v er : Int) (w : World) (e : Ending) (w' : World) : Prop := e = .returned (.tuple #[.int .i64 v, .int .i64 er]) ∧ Below w.heap.size w w'
theorem take_snocZ {zs : List Int} {k : Nat} (h : k < zs.length) : zs.take (k + 1) = zs.take k ++ [zs.getD k 0] := by
  rw [List.take_succ_eq_append_getElem h, List.getD_eq_getElem?_getD, List.getElem?_eq_getElem h]; rfl
set_option maxHeartbeats 1600000 in
theorem common_any (l : List El) (A : Option Addr) (c : Nat) (i k : Int) (w : World) (H : LRow w A c l) :
    Calls Tryd.prog 18 #[.slice A l.length c, .int .i64 i, .int .i64 k] w (ComPost (commE (chkZ l [i, k]) (comZ l i k)) (chkZ l [i, k]) w) := by
  have HC := Lib.hid (check_any l A c (some ⟨w.heap.size, 0, none⟩) 2 [i, k] _ (H.alloc (.cells #[.int .i64 i, .int .i64 k] 3)) (rowLaid w [i, k]) (by show 2 ≤ 1000; decide))
  have HH := Lib.hid H
  clear H
  go_enter Tryd.func18, Tryd.ntmps18
  go_wp2_with fail
  refine HC.out.mono ?_
  rintro e w1 ⟨rfl, B1⟩
  have B := Lib.hid (below1 B1)
  clear B1 HC
  by_cases he : chkZ l [i, k] = 0
  · obtain ⟨p1, p2, p3⟩ := valid_par (chk_ok he).1
    have HE0 := Lib.hid (show commE (chkZ l [i, k]) (comZ l i k) = lastZ (onZ l k) (wayZ l i) ∧ chkZ l [i, k] = 0 from ⟨if_pos he, he⟩)
    have hi := (chk_ok he).2 i (by simp)
    have hk := (chk_ok he).2 k (by simp)
    have HO := Lib.hid (onpath_any l A c p1 p3 _ k w1 (HH.out.below B.out).row (by omega) hk.2 (Nat.le_refl _))
    have HOS := Lib.hid (onZ_spec p1 hk.2).1
    have HWB := Lib.hid (way_bd p1 hi.2)
    have HWL := Lib.hid (Nat.le_trans (way_len p1 hi.2) p3)
    have HP := Lib.hid (fun (W : World) (b : Below w1.heap.size w1 W) => pathto_any l A c i W p1 p3 (HH.out.below (B.out.trans (b.mono B.out.size))).row hi.1 hi.2)
    have HI2 := Lib.hid hi.2
    rw [he]
    clear he hi hk p1 p2 p3
    go_wp2_with fail
    refine HO.out.mono ?_
    rintro e w2 ⟨g, rfl, hg, S, B2⟩
    have S2 := Lib.hid S
    have BB := Lib.hid (B.out.trans (B2.mono B.out.size))
    have HP2 := Lib.hid (HP.out w2 B2)
    clear S B2 HO HP
    go_wp2_with fail
    refine HP2.out.mono ?_
    rintro e w3 ⟨v, rfl, O, B3⟩
    obtain ⟨zA, zc, rfl, R, _⟩ := O.slice
    have S3 := Lib.hid (S2.out.below B3)
    have R3 := Lib.hid R
    have B4 := Lib.hid (BB.out.trans (B3.mono BB.out.size))
    clear O R B3 HP2 BB S2
    obtain ⟨zs, hzs⟩ : ∃ zs, zs = wayZ l i := ⟨_, rfl⟩
    rw [← hzs] at R3 HWB HWL HE0 ⊢
    obtain ⟨K, hK⟩ : ∃ n, n = zs.length := ⟨_, rfl⟩
    have HK := Lib.hid hK
    have hKl : K ≤ 128 := by rw [hK]; exact HWL.out
    rw [← hK]
    clear hK hzs HWL
    go_wp2_with fail
    go_loopw [10, 28] (fun av iv wr => ∃ (j : Nat) (a : Int), j ≤ K ∧ iv = .int .i64 (j : Int) ∧ av = .int .i64 a ∧ Hid (a = lastZ (onZ l k) (zs.take j)) ∧ Hid (∃ n, wr = w3.drewN n)) (fun _ iv _ => K - (intOf iv).toNat)
    case atStart => exact ⟨0, 0, by omega, rfl, rfl, Lib.hid rfl, Lib.hid ⟨0, rfl⟩⟩
    case round =>
      obtain ⟨j, a, hj, rfl, rfl, HA, HW⟩ := hrel
      by_cases hlt : j < K
      · obtain ⟨ad, rfl, _, hc⟩ := R3.out j (by rw [← HK.out]; exact hlt)
        have HT := Lib.hid (take_snocZ (show j < zs.length by rw [← HK.out]; exact hlt))
        have hm := HWB.out (zs.getD j 0) (getD_mem (by rw [← HK.out]; exact hlt))
        have HL := Lib.hid (lastZ_snoc (onZ l k) (zs.take j) (zs.getD j 0))
        generalize zs.getD j 0 = z at *
        obtain ⟨q, rfl⟩ := Int.eq_ofNat_of_zero_le hm.1
        have hql : q < l.length := by have := HI2.out; omega
        have hd : wr.cell? (ad.add j) = some (.int .i64 (q : Int)) := by obtain ⟨n, rfl⟩ := HW.out; exact hc
        have hs : wr.cell? ⟨g, q, none⟩ = some (.bool ((onZ l k).getD q false)) := by obtain ⟨n, rfl⟩ := HW.out; exact S3.out.cell q (by rw [HOS.out]; exact hql)
        have hql' : (q : Int) < (l.length : Int) := by omega
        rw [Int.toNat_natCast] at HL
        clear hc hm
        cases hb : (onZ l k).getD q false with
        | false =>
          rw [hb] at hs HL
          have HL2 := Lib.hid (show lastZ (onZ l k) (zs.take (j + 1)) = lastZ (onZ l k) (zs.take j) by rw [HT.out, HL.out]; rfl)
          clear hb HL
          go_wp2_with fail
          go_roundw
          case rel => exact ⟨j + 1, a, by omega, by go_num, rfl, Lib.hid (by rw [HL2.out]; exact HA.out), HW⟩
          case measure => simp [intOf]; omega
        | true =>
          rw [hb] at hs HL
          have HL2 := Lib.hid (show lastZ (onZ l k) (zs.take (j + 1)) = (q : Int) by rw [HT.out, HL.out]; rfl)
          clear hb HL
          go_wp2_with fail
          go_roundw
          case rel => exact ⟨j + 1, (q : Int), by omega, by go_num, rfl, Lib.hid HL2.out.symm, HW⟩
          case measure => simp [intOf]; omega
      · obtain rfl : j = K := by omega
        have HF := Lib.hid (show a = lastZ (onZ l k) zs by have := HA.out; rw [HK.out, List.take_length] at this; exact this)
        go_wp2_with fail
        go_ret2
        rw [HE0.out.1, HE0.out.2]
        exact ⟨by rw [← HF.out]; rfl, by obtain ⟨n, rfl⟩ := HW.out; exact bdn B4.out⟩
  · have HE := Lib.hid (show commE (chkZ l [i, k]) (comZ l i k) = 0 from if_neg he)
    have hne : (chkZ l [i, k] != 0) = true := bne_iff_ne.2 he
    clear he
    go_wp2_with fail
    go_ret2
    exact ⟨by rw [HE.out]; rfl, B.out⟩
end Go.Proofs.YteeoecegpnmafaaDoor
