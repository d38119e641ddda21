/-
  Stage 13: the program's Bound.
-/
import Derived.Test.YtcplanafcnnodaaYBound
set_option linter.unusedSimpArgs false
set_option linter.unusedVariables false
namespace Go.Proofs.Ytcplanafcnnodaa
open Go.RowKit Go.Lib

set_option maxRecDepth 100000 in
set_option maxHeartbeats 3200000 in
theorem bound_any (l : List It) (A C : Option Addr) (c cc L n : Nat) (wt : Int) (hL : L = l.length) (cs : List Int) (hn : n = cs.length) (hm : n ≤ maxLen) (w : World) (hi : IRow w A l) (hc : Row .i64 w w.heap.size C cs) :
    Calls Try.prog 32 #[jv A L c wt, .slice C n cc] w fun e w' => e = .returned (R2 (boundE l wt cs)) ∧ Below w.heap.size w w' := by
  have hm' : n ≤ 9223372036854775807 := hm
  have HI := Lib.hid hi
  have HC := Lib.hid hc
  have HL := Lib.hid hL
  have HN := Lib.hid hn
  have HM := Lib.hid hm
  have HVL := Lib.hid (fun (W : World) (k : IRow W A l) => valid_any l A c wt W k)
  rw [← hL] at HVL
  have HE := Lib.hid (show boundE l wt cs = if validR l wt ≠ 0 then (0, validR l wt) else if chB l none cs = true then bnd l wt none 0 (cs.map Int.toNat) else (0, 1) from rfl)
  have J0 := Lib.hid (JBox.new (w := w) (A := A) (n := L) (c := c) (wt := wt) w.heap.size rfl)
  have B0 := Lib.hid ((Below.refl w.heap.size w).alloc (Nat.le_refl _) (.cells #[.slice A L c, .int .i64 wt] 24))
  obtain ⟨b, hb⟩ : ∃ b, b = w.heap.size := ⟨_, rfl⟩
  clear hi hc hL hn hm
  go_enter Try.func32, Try.ntmps32
  go_upto_region 1 with fail
  rw [← hb] at J0 ⊢
  generalize w.alloc (.cells #[.slice A L c, .int .i64 wt] 24) = w1 at *
  clear hb
  obtain ⟨j0, j1, jl⟩ := J0.out
  go_wp2_with fail
  refine (HVL.out w1 (HI.out.below B0.out)).mono ?_
  rintro e w2 ⟨rfl, hB2⟩
  have J2 := Lib.hid (J0.out.below hB2 jl)
  have B2 := Lib.hid (B0.out.trans (hB2.mono B0.out.size))
  clear j0 j1 jl J0 B0 hB2 HVL
  obtain ⟨j0, j1, jl⟩ := J2.out
  by_cases he : validR l wt = 0
  · have HV := Lib.hid he
    have hE := HE.out
    rw [if_neg (fun g => g he)] at hE
    have HCH := Lib.hid (isChain_any l A C c cc L n wt HL.out he cs HN.out HM.out w2 (HI.out.below B2.out) (HC.out.below B2.out))
    rw [he]
    clear he HE
    go_wp2_with fail
    refine HCH.out.mono ?_
    rintro e w3 ⟨rfl, hB3⟩
    have J3 := Lib.hid (J2.out.below hB3 jl)
    have B3 := Lib.hid (B2.out.trans (hB3.mono B2.out.size))
    clear j0 j1 jl J2 B2 hB3 HCH
    cases hch : chB l none cs with
    | false =>
      rw [hch, if_neg (by decide)] at hE
      have HE := Lib.hid hE
      clear hE hch
      go_wp2_with fail
      go_ret2
      exact ⟨ret_r2 HE.out, B3.out⟩
    | true =>
      rw [hch, if_pos rfl] at hE
      obtain ⟨d, hd, hcd⟩ := chB_iff.1 hch
      have HE := Lib.hid (show boundE l wt cs = bnd l wt none 0 d by rw [hE, hd, map_toZ])
      have HD := Lib.hid hd
      have HAT := Lib.hid (chn_at hcd)
      have HF := Lib.hid (formOk_of HV.out)
      have hnd : n = d.length := by rw [HN.out, hd, toZ_len]
      have HND := Lib.hid hnd
      have hL96 : L ≤ 96 := by have := (valid_ok HV.out).1; have := HL.out; omega
      clear hE hch hd hcd hnd
      go_wp2_with fail
      go_loopw [7, 23] (fun mv iv wr => ∃ (k : Nat) (m : Int), k ≤ n ∧ iv = .int .i64 (k : Int) ∧ mv = .int .i64 m ∧ (0 ≤ m ∧ m ≤ 4095) ∧ Hid ((k = 0 → m = 0) ∧ boundE l wt cs = bnd l wt (prv d k) m (d.drop k)) ∧ Hid (Below w3.heap.size w3 wr)) (fun _ iv _ => n - (intOf iv).toNat)
      case atStart => exact ⟨0, 0, by omega, rfl, rfl, by omega, Lib.hid ⟨fun _ => rfl, HE.out⟩, Lib.hid (Below.refl _ _)⟩
      case round =>
        obtain ⟨k, m, hk, rfl, rfl, hmb, P, BR⟩ := hrel
        have BW := Lib.hid (B3.out.trans (BR.out.mono B3.out.size))
        by_cases hlt : k < n
        · obtain ⟨ad, rfl, _, ck⟩ := (HC.out.below BW.out) k (by rw [← HN.out]; exact hlt)
          obtain ⟨at1, at2⟩ := HAT.out k (by rw [← HND.out]; exact hlt)
          have HA2 := Lib.hid at2
          obtain ⟨Y, hY⟩ : ∃ x, x = d.getD k 0 := ⟨_, rfl⟩
          have HYY := Lib.hid hY
          rw [HD.out, toZ_at _ (by rw [← HND.out]; exact hlt), ← hY] at ck
          rw [← hY] at at1
          have hYL : Y < L := by rw [HL.out]; exact at1
          have hYi : (Y : Int) < (L : Int) := by omega
          have hki : (k : Int) < (n : Int) := by omega
          obtain ⟨M', hM'⟩ : ∃ M', M' = if k = 0 then 0 else vk (rel l (d.getD (k - 1) 0) (d.getD k 0)) m := ⟨_, rfl⟩
          have HST := Lib.hid (bnd_step (l := l) (wt := wt) (d := d) (k := k) (m := m) (by rw [← HND.out]; exact hlt) P.out.1 hM' HA2.out)
          rw [← hY] at HST
          have hMb : 0 ≤ M' ∧ M' ≤ 4096 := by
            rw [hM']
            split
            · omega
            · have := vk_bd (r := rel l (d.getD (k - 1) 0) (d.getD k 0)) hmb.1; omega
          have HEQ := Lib.hid P.out.2
          have HK0 := Lib.hid P.out.1
          have HMM := Lib.hid hM'
          clear at1 at2 hY hM' P
          obtain ⟨j0, j1, jl⟩ := (J3.out.below BR.out J3.out.lt)
          go_upto_if 29 with fail
          go_cut [7] from 30 to 38 (fun mv wx => mv = .int .i64 M' ∧ Hid (Below w3.heap.size w3 wx))
          case first =>
            cases k with
            | zero =>
              have hm0 := HMM.out
              rw [if_pos rfl] at hm0
              have hm1 := HK0.out rfl
              subst hm0
              subst hm1
              clear HK0 HMM HST HEQ
              go_wp2_with fail
              go_meet
              case rel => exact ⟨rfl, BR⟩
            | succ k =>
              have hm0 := HMM.out
              rw [if_neg (by omega)] at hm0
              replace hm0 : M' = vk (rel l (d.getD k 0) (d.getD (k + 1) 0)) m := hm0
              rw [← HYY.out] at hm0
              obtain ⟨ad', e', _, cq⟩ := (HC.out.below BW.out) k (by rw [← HN.out]; omega)
              obtain rfl : ad = ad' := by injection e'
              rw [HD.out, toZ_at _ (by rw [← HND.out]; omega)] at cq
              obtain ⟨hX1, -⟩ := HAT.out k (by rw [← HND.out]; omega)
              obtain ⟨X, hX⟩ : ∃ x, x = d.getD k 0 := ⟨_, rfl⟩
              rw [← hX] at cq hm0 hX1
              have HLB := Lib.hid (fun (W : World) (kb : Below wr.heap.size wr W) => lb_any l A c L wt HL.out HV.out X Y m (by omega) (by rw [HL.out]; exact hX1) hYL W (HI.out.below (BW.out.trans (kb.mono BW.out.size))))
              rw [← hm0] at HLB
              have ltq := lt_of_cell cq
              have HPS := Lib.hid (fun (Z : World) (hZ : Below wr.heap.size wr Z) => (show Z.cell? ⟨b, 0, none⟩ = some (.slice A L c) ∧ Z.cell? ⟨b, 1, none⟩ = some (.int .i64 wt) ∧ Z.cell? (ad.add k) = some (.int .i64 (X : Int)) from
                ⟨(hZ.cell (p := ⟨b, 0, none⟩) jl).trans j0, (hZ.cell (p := ⟨b, 1, none⟩) jl).trans j1, (hZ.cell ltq).trans cq⟩))
              have hk1 : (k : Int) + 1 - 1 = (k : Int) := by omega
              have hwr : IntKind.i64.wrap ((k : Int) + 1 - 1) = (k : Int) := by rw [IntWalk.i64_in _ (by omega)]; omega
              have hwk : IntKind.i64.wrap (k : Int) = (k : Int) := IntWalk.i64_in _ (by omega)
              have hkn : (k : Int) < (n : Int) := by omega
              rw [add_sc] at ck
              clear hm0 e' hX hX1 ltq cq HK0 HMM HST HEQ
              go_upto_region 11 with fail
              clear ck j0 j1
              obtain ⟨q0, e0⟩ : ∃ x, x = wr.drew := ⟨_, rfl⟩
              have K0 := Lib.hid (show Below wr.heap.size wr q0 from by rw [e0]; exact (Below.refl _ _).drew)
              have F0 := HPS.out q0 K0.out
              have HE0 := Lib.hid e0
              clear e0
              refine AnyT.begin_at tlN (fun Z => Z.cell? ⟨b, 0, none⟩ = some (.slice A L c) ∧ Z.cell? ⟨b, 1, none⟩ = some (.int .i64 wt) ∧ Z.cell? (ad.add k) = some (.int .i64 (X : Int))) (by kernel_rfl) HE0.out F0 ?_
              clear F0
              intro F0
-- TAKES B11
              refine AnyT.takeD (i := 0) (d := some 30) (v := jv A L c wt) rfl rfl (by kernel_rfl) (by kernel_rfl) (by kernel_rfl) (by kernel_rfl) (fun _ _ _ h => h) (Or.inl ⟨by rfl, fun wz hz => by obtain ⟨z0, z1, z2⟩ := hz; go_simp⟩) F0 ?_
              simp only [Act.put, List.setIfInBounds_toArray, List.set_cons_zero, List.set_cons_succ]
              refine AnyT.takeD (i := 1) (d := some 31) (v := .slice (some ad) n cc) rfl rfl (by kernel_rfl) (by kernel_rfl) (by kernel_rfl) (by kernel_rfl) (fun _ _ _ h => h) (Or.inl ⟨by rfl, fun wz _ => by go_simp⟩) F0 ?_
              simp only [Act.put, List.setIfInBounds_toArray, List.set_cons_zero, List.set_cons_succ]
              refine AnyT.takeD (i := 2) (d := some 32) (v := .int .i64 ((k : Int) + 1)) rfl rfl (by kernel_rfl) (by kernel_rfl) (by kernel_rfl) (by kernel_rfl) (fun _ _ _ h => h) (Or.inl ⟨by rfl, fun wz _ => by go_simp⟩) F0 ?_
              simp only [Act.put, List.setIfInBounds_toArray, List.set_cons_zero, List.set_cons_succ]
              refine AnyT.takeD (i := 3) (d := some 33) (v := .int .i64 (k : Int)) rfl rfl (by kernel_rfl) (by kernel_rfl) (by kernel_rfl) (by kernel_rfl) (fun _ _ _ h => h) (Or.inl ⟨by rfl, fun wz _ => by go_simp⟩) F0 ?_
              simp only [Act.put, List.setIfInBounds_toArray, List.set_cons_zero, List.set_cons_succ]
              refine AnyT.takeD (i := 4) (d := some 34) (v := .pointer (some (ad.add k))) rfl rfl (by kernel_rfl) (by kernel_rfl) (by kernel_rfl) (by kernel_rfl) (fun _ _ _ h => h) (Or.inl ⟨by rfl, fun wz _ => by go_simp⟩) F0 ?_
              simp only [Act.put, List.setIfInBounds_toArray, List.set_cons_zero, List.set_cons_succ]
              refine AnyT.takeD (i := 5) (d := some 35) (v := .int .i64 (X : Int)) rfl rfl (by kernel_rfl) (by kernel_rfl) (by kernel_rfl) (by kernel_rfl) (fun _ _ _ h => h) (Or.inl ⟨by rfl, fun wz hz => by obtain ⟨z0, z1, z2⟩ := hz; go_simp⟩) F0 ?_
              simp only [Act.put, List.setIfInBounds_toArray, List.set_cons_zero, List.set_cons_succ]
              refine AnyT.takeD (i := 6) (d := some 36) (v := .int .i64 m) rfl rfl (by kernel_rfl) (by kernel_rfl) (by kernel_rfl) (by kernel_rfl) (fun _ _ _ h => h) (Or.inl ⟨by rfl, fun wz _ => by go_simp⟩) F0 ?_
              simp only [Act.put, List.setIfInBounds_toArray, List.set_cons_zero, List.set_cons_succ]
              refine AnyT.takeD (i := 7) (d := some 37) (v := .int .i64 (Y : Int)) rfl rfl (by kernel_rfl) (by kernel_rfl) (by kernel_rfl) (by kernel_rfl) (fun _ _ _ h => h) (Or.inl ⟨by rfl, fun wz _ => by go_simp⟩) F0 ?_
              simp only [Act.put, List.setIfInBounds_toArray, List.set_cons_zero, List.set_cons_succ]
              -- TAKEN B11
              refine AnyT.branch (rs := [8]) (by kernel_rfl) (by simp) ?_
              refine all_cons (?_) all_nil
              refine AnyT.enter (i := 8) (d := some 38) (f := 52) (args := #[jv A L c wt, .int .i64 (X : Int), .int .i64 m, .int .i64 (Y : Int)]) rfl rfl rfl (by go_simp) (HLB.out q0 K0.out) ?_
              rintro e q1 ⟨rfl, hB1⟩
              have K1 := Lib.hid (K0.out.trans (hB1.mono K0.out.size))
              have F1 := HPS.out q1 K1.out
              refine ⟨_, rfl, fun _ => F1, ?_⟩
              clear hB1 F0
              simp only [Act.put, List.setIfInBounds_toArray, List.set_cons_zero, List.set_cons_succ]
              refine AnyT.takeD (i := 9) (d := some 7) (v := .int .i64 M') rfl rfl (by kernel_rfl) (by kernel_rfl) (by kernel_rfl) (by kernel_rfl) (fun _ _ _ h => h) (Or.inl ⟨by rfl, fun wz _ => by go_simp⟩) F1 ?_
              simp only [Act.put, List.setIfInBounds_toArray, List.set_cons_zero, List.set_cons_succ]
              refine AnyT.done_ (by kernel_rfl) ?_ _
              have BR1 := Lib.hid (BR.out.trans (K1.out.mono BR.out.size))
              clear F1 HPS HE0 K0 K1 HLB
              go_wp2_with fail
              go_meet
              case rel => exact ⟨rfl, BR1⟩
          case rest =>
            clear ck j0 j1 jl BW BR HMM
            obtain ⟨rfl, BR⟩ := hcut
            have BW := Lib.hid (B3.out.trans (BR.out.mono B3.out.size))
            obtain ⟨j0, j1, jl⟩ := (J3.out.below BR.out J3.out.lt)
            obtain ⟨aA, rfl, CE⟩ := (HI.out.below BW.out).at_ Y (by rw [← HL.out]; exact hYL)
            obtain ⟨-, -, r2, -⟩ := CE.spelt
            replace r2 : wc.cell? ⟨(aA.add (Y * 4)).block, (aA.add (Y * 4)).off + 2, none⟩ = some (.int .i64 (rnd l Y)) := r2
            have NR := Lib.hid (fun W => next_code M' (rnd l Y) wt W (by omega))
            have HNX := Lib.hid (fun (kk : Int) => next_bd (n := M') (r := rnd l Y) (wt := wt) (k := kk) hMb.1 (HF.out.rb Y (by rw [← HL.out]; exact hYL)) HF.out.wb)
            obtain ⟨⟨kk, er⟩, hnz⟩ : ∃ t, t = nextZ M' (rnd l Y) wt := ⟨_, rfl⟩
            have HNZ := Lib.hid hnz
            rw [← hnz] at NR HNX
            have hst := HST.out
            rw [← hnz] at hst
            have HST := Lib.hid hst
            clear hnz hst CE
            go_wp2_with fail
            go_quiet ((go_at_call 53; exact Calls.quiet_of_same ((NR.out _).mono fun _ _ h => ⟨h.1, h.2.symm⟩)))
            clear j0 j1 jl r2
            by_cases hez : er = 0
            · subst hez
              have hbd := HNX.out kk rfl
              have HP2 := Lib.hid (show (k + 1 = 0 → kk = 0) ∧ boundE l wt cs = bnd l wt (prv d (k + 1)) kk (d.drop (k + 1)) from ⟨fun h => by omega, by rw [HEQ.out, HST.out, if_pos rfl]⟩)
              clear HST HNX NR HNZ
              go_wp2_with fail
              go_roundw
              case rel => exact ⟨k + 1, kk, by omega, by go_num, rfl, by omega, HP2, Lib.hid (bdn BR.out)⟩
              case measure => simp [intOf]; omega
            · have HEE := Lib.hid (show boundE l wt cs = (0, er) by rw [HEQ.out, HST.out, if_neg hez])
              have hne : (er != 0) = true := bne_iff_ne.2 hez
              clear HST HNX NR HNZ hez
              go_wp2_with fail
              go_ret2
              exact ⟨ret_r2 HEE.out, bdn BW.out⟩
        · have hkn : k = n := by omega
          subst hkn
          have HEE := Lib.hid (show boundE l wt cs = (m, 0) by rw [P.out.2, HND.out, List.drop_length, bnd_nil])
          clear P
          go_wp2_with fail
          go_ret2
          exact ⟨ret_r2 HEE.out, BW.out⟩
  · have hE := HE.out
    rw [if_pos he] at hE
    have HEE := Lib.hid hE
    have hne : (validR l wt != 0) = true := bne_iff_ne.2 he
    clear he hE HE
    go_wp2_with fail
    go_ret2
    exact ⟨ret_r2 HEE.out, B2.out⟩
end Go.Proofs.Ytcplanafcnnodaa
