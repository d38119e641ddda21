/-
  Stage 3: the walk of HammingLimits.
-/
import Derived.Test.YtlfgmbdidjfcjaaDoorHFlip
set_option linter.unusedSimpArgs false
set_option linter.unusedVariables false
namespace Go.Proofs.YtlfgmbdidjfcjaaDoor
open Go.RowKit

theorem Good.all {zs xs : List Int} (h : Good zs xs 0) (hz : ∀ v ∈ zs, okV v) (k : Nat) (hk : k ≤ zs.length) : Good zs xs k := by
  induction k with
  | zero => exact h
  | succ k ih => exact (ih (by omega)).skip hz (by omega)
/-- k of the values are set, of n. -/
def part (x : Int) (n k : Nat) : List Int := List.replicate k x ++ List.replicate (n - k) 0
theorem part_len (x : Int) (n k : Nat) (h : k ≤ n) : (part x n k).length = n := by unfold part; rw [List.length_append, List.length_replicate, List.length_replicate]; omega
theorem part_set (x : Int) (n k : Nat) (h : k < n) : (part x n k).set k x = part x n (k + 1) := by
  unfold part
  rw [set_next (List.replicate k x) k n x (List.length_replicate ..) h, List.replicate_succ']
theorem part_zero (x : Int) (n : Nat) : part x n 0 = List.replicate n 0 := by unfold part; simp
theorem part_full (x : Int) (n : Nat) : part x n n = List.replicate n x := by unfold part; rw [Nat.sub_self]; simp
theorem made_u8 (n : Nat) : (madeCells #[.int .u8 0] n).toList = (List.replicate n (0 : Int)).map (Value.int .u8) := by
  refine List.ext_getElem? fun j => ?_
  rw [Array.getElem?_toList]
  unfold madeCells
  by_cases h : j < n
  · simp [h, Nat.mod_one]
  · simp [h]
theorem own_made_u8 {w : World} {base n : Nat} (h : w.ownsRow base 5 1 (.slice (some ⟨base, 0, none⟩) n n) n (madeCells #[.int .u8 0] (n * 1)).toList) : ∃ zs : List Int, zs.length = n ∧ (∀ z ∈ zs, 0 ≤ z ∧ z ≤ 255) ∧ Own .u8 5 w base (.slice (some ⟨base, 0, none⟩) n n) zs := by
  refine ⟨List.replicate n 0, List.length_replicate .., fun z hz => by rw [List.eq_of_mem_replicate hz]; decide, ?_⟩
  rw [Nat.mul_one, made_u8] at h
  unfold Own
  rw [List.length_replicate]
  exact h

set_option maxRecDepth 100000 in
set_option maxHeartbeats 3200000 in
theorem limits_walk (n0 v : Int) (w : World) (D : Dat w) :
    Calls Tryd.prog 3 #[.int .i64 n0, .int .i64 v] w fun e w' => e = .returned (.bool true) ∧ Below w.heap.size w w' := by
  obtain ⟨i0, hi, hz0, hz1, hz2⟩ := info_parts infoInt
  obtain ⟨i1, ki, kz0, kz1, kz2⟩ := info_parts infoU8
  have HD := Lib.hid D
  have tn := tmod_bd n0 3 (by decide)
  obtain ⟨m, hm⟩ : ∃ m : Nat, 65535 + (n0.tmod 3 + 3) % 3 = (m : Int) := ⟨(65535 + (n0.tmod 3 + 3) % 3).toNat, by omega⟩
  have hm2 : 65535 + n0.tmod 3 % 3 = (m : Int) := by omega
  have m1 : 65535 ≤ m := by omega
  have m2 : m ≤ 65537 := by omega
  have HM1 := Lib.hid hm
  have HM2 := Lib.hid hm2
  clear hm hm2 D
  go_enter Tryd.func3, Tryd.ntmps3
  go_wp2_with (first | (refine wpList_make_full _ rfl _ _ 22 rfl w.heap.size 3 i0 (.int .i64 0) 1 Tryd.underlying22 hi hz0 hz1 .i64 .i64 _ _ m rfl rfl (by have := HM1.out; omega) (by have := HM1.out; omega) (by rw [hz2]; omega) (by unfold maxLen; omega) (Nat.le_refl _) ?_; intro w1 O1 g1))
  simp only [HM1.out, HM2.out]
  clear tn
  have B0 : Below w.heap.size w w1 := (Below.refl _ _).grown g1 (Nat.le_refl _) (fun _ h => by cases h)
  have O1' : Own .i64 3 w1 w.heap.size (.slice (some ⟨w.heap.size, 0, none⟩) m m) (List.replicate m 0) := by
    unfold Own
    rw [List.length_replicate, ← made_int]
    rw [Nat.mul_one] at O1
    exact O1
  obtain ⟨x, lx, hx1, hx2⟩ := val_nat v
  have tv := tmod_bd v 2048 (by decide)
  obtain ⟨g, eg⟩ : ∃ g, g = w.heap.size := ⟨_, rfl⟩
  have EG := Lib.hid eg
  rw [← eg] at B0 O1' ⊢
  rw [← part_zero (x : Int) m] at O1'
  have HO := Lib.hid O1'
  have HB := Lib.hid B0
  have HX1 := Lib.hid hx1
  have HX2 := Lib.hid hx2
  clear g1 O1 O1' B0 eg hx1 hx2
  go_loopw [27] (fun i wr => ∃ k : Nat, k ≤ m ∧ i = .int .i64 k ∧ Hid (Own .i64 3 wr g (.slice (some ⟨g, 0, none⟩) m m) (part (x : Int) m k)) ∧ Hid (Below g w wr)) (fun i _ => m - (intOf i).toNat)
  case atStart => exact ⟨0, by omega, rfl, HO, HB⟩
  case round =>
    clear HO HB
    obtain ⟨k, hk, rfl, O, B⟩ := hrel
    by_cases hlt : k < m
    · have HPL := Lib.hid (part_len (x : Int) m k hk)
      obtain ⟨u, hu, hf⟩ := own_ex O.out HPL.out k hlt
      go_wp2_with fail
      clear hu hf
      simp only [HX1.out, HX2.out]
      go_roundw
      case rel =>
        refine ⟨k + 1, by omega, by go_num, ?_, B.out.setCell (Nat.le_refl _) _⟩
        have := O.out.store HPL.out.symm k (x : Int)
        rw [part_set _ _ _ hlt] at this
        exact this
      case measure => simp [intOf]; omega
    · obtain rfl : k = m := by omega
      rw [part_full] at O
      have BW := Lib.hid (show Below w.heap.size w wr by rw [← EG.out]; exact B.out)
      obtain ⟨L, hL⟩ : ∃ L, L = List.replicate k (x : Int) := ⟨_, rfl⟩
      have hLn : L.length = k := by rw [hL, List.length_replicate]
      have hLv : ∀ v ∈ L, okV v := fun v hv => by
        rw [hL] at hv; rw [List.eq_of_mem_replicate hv]; unfold okV; omega
      rw [← hL] at O
      have HV := Lib.hid hLv
      have HN := Lib.hid hLn
      obtain ⟨A5, c5, e5, RX⟩ := Own.rowB O.out
      have ea : A5 = some ⟨g, 0, none⟩ := by injection e5 with h1 h2 h3; exact h1.symm
      subst ea
      have HRL := Lib.hid RX
      clear hL hLv hLn B RX e5 hlt hk tv
      by_cases hbig : 65536 < k
      · have hp := packR_big (zs := L) (by rw [HN.out]; exact hbig)
        have cp := pack_row hp (some ⟨g, 0, none⟩) k wr HRL.out (HD.out.below BW.out HD.out.lt)
        rw [HN.out] at cp
        clear hp
        go_wp2_with fail
        refine cp.mono ?_
        rintro e w2 ⟨A2, c2, rfl, R2, B2⟩
        have HB2 := Lib.hid (BW.out.trans (B2.mono BW.out.size))
        clear cp R2 B2
        go_wp2_with (first | (refine wpList_make_full _ rfl _ _ 23 rfl w2.heap.size 5 i1 (.int .u8 0) 1 Tryd.underlying23 ki kz0 kz1 .i64 .i64 _ _ 131073 rfl rfl rfl rfl (by rw [kz2]; decide) (by decide) (Nat.le_refl _) ?_; intro w3 O3 g3; obtain ⟨zs, hzl, hzb, OZ⟩ := own_made_u8 O3; have B3 := Lib.hid (HB2.out.trans (((Below.refl w2.heap.size w2).grown g3 (Nat.le_refl _) (fun _ h => by cases h)).mono HB2.out.size)); have HZL := Lib.hid hzl; have HZB := Lib.hid hzb; have HOZ := Lib.hid OZ; clear O3 g3 hzl hzb OZ))
        obtain ⟨A6, c6, e6, RZ⟩ := Own.rowB HOZ.out
        have ea : A6 = some ⟨w2.heap.size, 0, none⟩ := by injection e6 with h1 h2 h3; exact h1.symm
        subst ea
        have cu := unpack_row (unpackR_big (zs := zs) (by rw [HZL.out]; decide)) (some ⟨w2.heap.size, 0, none⟩) 131073 w3 RZ HZB.out (HD.out.below B3.out HD.out.lt)
        rw [HZL.out] at cu
        clear e6 RZ
        refine cu.mono ?_
        rintro e w4 ⟨A3, c3, A4, c4, rfl, R3, R4, B4⟩
        have HB4 := Lib.hid (B3.out.trans (B4.mono B3.out.size))
        clear cu R3 R4 B4
        go_wp2_with (first | (refine wpList_make_full _ rfl _ _ 23 rfl w4.heap.size 5 i1 (.int .u8 0) 1 Tryd.underlying23 ki kz0 kz1 .i64 .i64 _ _ 131071 rfl rfl rfl rfl (by rw [kz2]; decide) (by decide) (Nat.le_refl _) ?_; intro w5 O5 g5; obtain ⟨ys, hyl, hyb, OY⟩ := own_made_u8 O5; have B5 := Lib.hid (HB4.out.trans (((Below.refl w4.heap.size w4).grown g5 (Nat.le_refl _) (fun _ h => by cases h)).mono HB4.out.size)); have HYL := Lib.hid hyl; have HYB := Lib.hid hyb; have HOY := Lib.hid OY; clear O5 g5 hyl hyb OY))
        obtain ⟨A7, c7, e7, RY⟩ := Own.rowB HOY.out
        have ea : A7 = some ⟨w4.heap.size, 0, none⟩ := by injection e7 with h1 h2 h3; exact h1.symm
        subst ea
        have cu := unpack_row (unpackR_odd (zs := ys) (by rw [HYL.out]; decide) (by rw [HYL.out])) (some ⟨w4.heap.size, 0, none⟩) 131071 w5 RY HYB.out (HD.out.below B5.out HD.out.lt)
        rw [HYL.out] at cu
        clear e7 RY
        refine cu.mono ?_
        rintro e w6 ⟨A8, c8, A9, c9, rfl, R8, R9, B6⟩
        have HB6 := Lib.hid (B5.out.trans (B6.mono B5.out.size))
        clear cu R8 R9 B6
        go_wp2_with fail
        refine (sane_any _ (HD.out.below HB6.out HD.out.lt)).mono ?_
        rintro e w' ⟨rfl, n5, rfl⟩
        go_wp2_with fail
        go_ret
        exact ⟨rfl, bdn HB6.out⟩
      · have hp := packR_ok (zs := L) (by rw [HN.out]; exact hbig) HV.out
        have cp := pack_row hp (some ⟨g, 0, none⟩) k wr HRL.out (HD.out.below BW.out HD.out.lt)
        have G := ((Good.start HV.out).all HV.out L.length (Nat.le_refl _))
        have HU := Lib.hid (G.unpack (by rw [HN.out]; omega))
        have HG := Lib.hid G
        obtain ⟨xs, hxs⟩ : ∃ xs, xs = L.flatMap two := ⟨_, rfl⟩
        rw [← hxs] at cp HU HG
        obtain ⟨N, hN⟩ : ∃ N, N = xs.length := ⟨_, rfl⟩
        have hN2 : N = 2 * k := by rw [hN, HG.out.len, HN.out]
        have hNe : ((N : Int) == 2 * (k : Int)) = true := by rw [beq_iff_eq]; omega
        have HNN := Lib.hid hN
        rw [HN.out] at cp
        clear hp hxs hN hN2 G
        go_wp2_with fail
        refine cp.mono ?_
        rintro e w2 ⟨A2, c2, rfl, R2, B2⟩
        have cu := unpack_row HU.out A2 c2 w2 R2 HG.out.byt (HD.out.below (BW.out.trans (B2.mono BW.out.size)) HD.out.lt)
        rw [← HNN.out] at cu ⊢
        have HB2 := Lib.hid (BW.out.trans (B2.mono BW.out.size))
        have HRL2 := Lib.hid (HRL.out.below B2)
        have HCU := Lib.hid cu
        clear cp R2 B2 cu
        go_wp2_with fail
        refine HCU.out.mono ?_
        rintro e w3 ⟨A3, c3, A4, c4, rfl, R3, R4, B3⟩
        have ci := ints_same L A3 (some ⟨g, 0, none⟩) c3 k w3 R3.1 (HRL2.out.below B3).1 R3.2
        rw [HN.out] at ci ⊢
        have HB3 := Lib.hid (HB2.out.trans (B3.mono HB2.out.size))
        have HCI := Lib.hid ci
        clear HCU R3 R4 B3 ci
        go_wp2_with fail
        refine HCI.out.mono ?_
        rintro e w' ⟨rfl, n3, rfl⟩
        go_wp2_with fail
        refine (sane_any _ ((HD.out.below HB3.out HD.out.lt).drewN _)).mono ?_
        rintro e w' ⟨rfl, n4, rfl⟩
        go_wp2_with fail
        go_ret
        exact ⟨rfl, bdn HB3.out⟩
end Go.Proofs.YtlfgmbdidjfcjaaDoor
