/-
  Stage 17: the walk of PlannerRoom.
-/
import Derived.Test.YtimkmieohkefiaaGreatZGVp
import Derived.Test.YtimkmieohkefiaaGreatBA5
set_option linter.unusedSimpArgs false
set_option linter.unusedVariables false
namespace Go.Proofs.YtimkmieohkefiaaGreat
open Go.RowKit Go.Lib

theorem PPR : ∀ z ∈ ([0, 100, 1000] : List Int), 0 ≤ z ∧ z ≤ 1000 := by decide
theorem PPQ : ∀ z ∈ ([300, 4000] : List Int), 300 ≤ z ∧ z ≤ 4000 := by decide
set_option maxRecDepth 100000 in
set_option maxHeartbeats 12800000 in
theorem room_walk (A : Option Addr) (c : Nat) (zs : List Int) (w : World) (hr : Row .i64 w w.heap.size A zs) (hm : zs.length ≤ maxLen) (hw : ∀ n ∈ zs, (Lit.int .i64 n).wf = true) :
    Calls Tryz.prog 9 #[.slice A zs.length c] w fun e w' => e = .returned (.bool true) ∧ Below w.heap.size w w' := by
  have K := Lib.hid (mk_row (c := c) (T := 90) hr hm hw)
  have B := Lib.hid ((Below.refl w.heap.size w).alloc (Nat.le_refl _) (.cells #[.slice A zs.length c, .int .i64 0] 90))
  clear hr hw
  go_enter Tryz.func9, Tryz.ntmps9
  go_wp2_with fail
  refine (new_any A zs.length c w).mono ?_
  rintro e w1 ⟨rfl, hw1⟩
  rw [← hw1] at K B
  clear hw1 hm
  go_wp2_with fail
  refine (mitems_any w.heap.size 0 12 w1 K.out (by omega) (by omega)).mono ?_
  rintro e w2 ⟨v2, l, rfl, O2, hl, hru, k2, m2⟩
  obtain ⟨IA, ic, rfl, -, hIA⟩ := O2.args
  have HO2 := Lib.hid O2
  have HV := Lib.hid (show validR l 0 = 0 from valid_of (by omega) hru (by decide))
  have B2 := Lib.hid (m2.below B.out (Nat.le_refl _) B.out.size)
  have K2 := Lib.hid k2
  have HML := Lib.hid K.out.lt
  obtain ⟨L, hL⟩ : ∃ n, n = l.length := ⟨_, rfl⟩
  have HLL := Lib.hid (And.intro hL hl)
  rw [← hL] at hIA ⊢
  have HIA := Lib.hid hIA
  clear K B O2 hru k2 m2 hIA hL hl
  go_wp2_with fail
  refine (tracks_any w.heap.size _ w2 K2.out (by omega)).mono ?_
  rintro e w3 ⟨v3, b, rfl, O3, hb1, hb2, k3, m3⟩
  obtain ⟨TA, tc, rfl, -, -, -, -⟩ := O3.slice
  obtain ⟨bn, hbn⟩ : ∃ n, n = b.length := ⟨_, rfl⟩
  rw [← hbn] at O3
  have HO3 := Lib.hid O3
  have HI3 := Lib.hid (HO2.out.moves m3 HML.out)
  have HTB := Lib.hid (show ∀ z ∈ b, 300 ≤ z ∧ z ≤ 4000 from fun z hz => trkL_bd (hb2 z hz))
  have HBL := Lib.hid hb1
  have HBN := Lib.hid hbn
  have K3 := Lib.hid k3
  have B3 := Lib.hid (m3.below B2.out (Nat.le_refl _) B2.out.size)
  have HM2 := Lib.hid (show w.heap.size < w2.heap.size from K2.out.lt)
  rw [← hbn]
  clear O3 hb1 hb2 k3 m3 hbn K2 B2 HO2
  have HPC := Lib.hid (show Calls Tryz.prog 13 #[.slice IA L ic, .slice TA bn tc] w3 (PlanPost17 l b w3) from
    pplan_any l IA ic L b TA bn tc HLL.out.1 HIA.out HBN.out (by have := HBL.out; unfold maxLen; omega) w3 HI3.out.irow (by have := (own_read HO3.out).2.1; exact this))
  go_wp2_with fail
  refine HPC.out.mono ?_
  rintro e w4 ⟨res, rf, er, sh, vr, rfl, hp, hsh, OR, B4⟩
  have HP := Lib.hid hp
  have HSST := Lib.hid (show ∀ s tk, res = some (s, tk) → sh.st = s.st from fun s tk e => by subst e; exact hsh.st)
  have HSN := Lib.hid (fun (W : World) => sane17_any W)
  obtain ⟨jA, jn, jc, wt, st, vA, vn, vc, uA, un, uc, kA, kn, kc⟩ := sh
  have BS := box1W w4 (.cells #[.slice jA jn jc, .int .i64 wt, .int .i64 st, .slice vA vn vc, .slice uA un uc, .slice kA kn kc] 43)
  have B45 := B4.trans (BS.mono B4.size)
  have Y5 := Lib.hid (show AB 43 (w4.alloc (.cells #[.slice jA jn jc, .int .i64 wt, .int .i64 st, .slice vA vn vc, .slice uA un uc, .slice kA kn kc] 43)) w4.heap.size [.slice jA jn jc, .int .i64 wt, .int .i64 st, .slice vA vn vc, .slice uA un uc, .slice kA kn kc] from AB.new w4 [.slice jA jn jc, .int .i64 wt, .int .i64 st, .slice vA vn vc, .slice uA un uc, .slice kA kn kc] 43 w4.heap.size rfl)
  have O5 := Lib.hid (HO3.out.below B45)
  have I5 := Lib.hid (HI3.out.below B45)
  have K5 := Lib.hid (K3.out.stays' B45)
  have B5 := Lib.hid (B3.out.trans (B45.mono B3.out.size))
  have HZW := Lib.hid (show w.heap.size < w4.heap.size from Nat.lt_of_lt_of_le K3.out.lt B4.size)
  obtain ⟨rA, rc, rfl, -, -, -, -⟩ := OR.slice
  clear hp hsh OR B4 BS B45 HPC HO3 HI3 K3 B3
  simp only at HSST
  go_upto_region 4 with fail
  obtain ⟨y, hy⟩ : ∃ y, y = w4.heap.size := ⟨_, rfl⟩
  rw [← hy] at Y5 HZW ⊢
  generalize w4.alloc (.cells #[.slice jA jn jc, .int .i64 wt, .int .i64 st, .slice vA vn vc, .slice uA un uc, .slice kA kn kc] 43) = w5 at *
  clear hy
  have HRB := Lib.hid ((own_read O5.out).2.1.below (box1W w5 (.cells #[] 3)))
  have HNB := Lib.hid (fun h => own_nilc O5.out h)
  have hbl := HBL.out
  have hbn9 := HBN.out
  have hb10 : bn ≤ 10 := by omega
  have HB10 := Lib.hid hb10
  clear hbl hbn9
  go_wp2_with (first
    | (at_builtin; refine awpList_copyI _ rfl (.tmp 27) (.tmp 28) rfl w5 rfl rfl TA bn tc b HBN.out rfl HRB.out HNB.out (by have := HB10.out; omega) ?_; intro Ac cc w6 oc bc; have OC := Lib.hid oc; have BC := Lib.hid bc; clear oc bc))
  obtain ⟨m, hmm⟩ : ∃ m, m = w.heap.size := ⟨_, rfl⟩
  rw [← hmm] at K5 HM2 HML HZW ⊢
  have HMM := Lib.hid hmm
  clear hmm HRB HNB
  have OC6 := Lib.hid (show ∃ ds, MoreR b ds 0 ∧ Own .i64 3 w6 w5.heap.size (.slice Ac bn cc) ds from ⟨b, ⟨rfl, fun j hj => ⟨Int.le_refl _, by omega, fun _ => rfl⟩⟩, OC.out⟩)
  have K6 := Lib.hid (K5.out.stays' BC.out)
  have V6 := Lib.hid (show Moves m w5 w6 from Moves.of_below BC.out)
  have HM5 := Lib.hid (show m < w5.heap.size from K5.out.lt)
  obtain ⟨NN, hNN⟩ : ∃ n, n = 75 := ⟨_, rfl⟩
  have HNN := Lib.hid hNN
  have K6 := Lib.hid (show IsMk w6 m NN by rw [HNN.out]; exact K6.out.more (by omega))
  clear hNN OC BC K5
  go_loopw [32] (fun iv wr => ∃ j : Nat, j ≤ bn ∧ iv = .int .i64 (j : Int) ∧ Hid (∃ ds, MoreR b ds j ∧ Own .i64 3 wr w5.heap.size (.slice Ac bn cc) ds) ∧ Hid (IsMk wr m (NN + j)) ∧ Hid (Moves m w5 wr)) (fun iv _ => bn - (intOf iv).toNat)
  case atStart => exact ⟨0, by omega, rfl, OC6, K6, V6⟩
  case round =>
    clear OC6 K6 V6
    obtain ⟨j, hj, rfl, OC, KK, VV⟩ := hrel
    by_cases hlt : j < bn
    · have hltz : (j : Int) < (bn : Int) := by omega
      obtain ⟨ds, hds, od⟩ := OC.out
      have hdl : bn = ds.length := by rw [hds.1]; exact HBN.out
      obtain ⟨h, rfl⟩ := own_at od (by omega)
      have hz := od.cell hdl j (by omega)
      have hfz := od.frozen hdl j
      have hgw := (own_block od (g := h) rfl).2
      have hg4 := (own_block od (g := h) rfl).1
      obtain ⟨z, hzz⟩ : ∃ z, z = ld ds j := ⟨_, rfl⟩
      change wr.cell? _ = some (Value.int .i64 (ld ds j)) at hz
      rw [← hzz] at hz
      have hzb : 0 ≤ z ∧ z ≤ 6000 := by
        have h1 := hds.2 j (by rw [← HBN.out]; exact hlt)
        have h2 := HTB.out _ (ld_mem (l := b) (k := j) (by rw [← HBN.out]; exact hlt))
        omega
      have hz0 : 0 ≤ z := hzb.1
      have hz1 : z ≤ 6000 := hzb.2
      have HDS := Lib.hid hds
      have HDL := Lib.hid hdl
      have HOD := Lib.hid od
      have HZZ := Lib.hid hzz
      have HGW := Lib.hid hgw
      have HFZ := Lib.hid hfz
      have HG4 := Lib.hid hg4
      have HGM := Lib.hid (show m < h by have := HM5.out; omega)
      have HLT := Lib.hid hlt
      clear hds od hzz hgw OC hfz hg4 hdl hzb
      go_upto_region 8 with fail
      obtain ⟨q0, e0⟩ : ∃ q, q = wr.drew := ⟨_, rfl⟩
      have D0 := Lib.hid (show Below wr.heap.size wr q0 by rw [e0]; exact (Below.refl _ _).drew)
      have F0 : q0.cell? ⟨h, j, none⟩ = some (.int .i64 z) := by rw [e0]; exact hz
      have HE0 := Lib.hid e0
      clear e0 hz
      refine AnyT.begin_at tl9 (fun X => X.cell? ⟨h, j, none⟩ = some (.int .i64 z)) (by kernel_rfl) HE0.out F0 ?_
      intro F0
-- TAKES D1
      refine AnyT.takeD (i := 0) (d := some 35) (v := .slice (some ⟨h, 0, none⟩) bn cc) rfl rfl (by kernel_rfl) (by kernel_rfl) (by kernel_rfl) (by kernel_rfl) (fun _ _ _ h => h) (Or.inl ⟨by rfl, fun wz _ => by go_simp⟩) F0 ?_
      simp only [Act.put, List.setIfInBounds_toArray, List.set_cons_zero, List.set_cons_succ]
      refine AnyT.takeD (i := 1) (d := some 36) (v := .int .i64 (j : Int)) rfl rfl (by kernel_rfl) (by kernel_rfl) (by kernel_rfl) (by kernel_rfl) (fun _ _ _ h => h) (Or.inl ⟨by rfl, fun wz _ => by go_simp⟩) F0 ?_
      simp only [Act.put, List.setIfInBounds_toArray, List.set_cons_zero, List.set_cons_succ]
      refine AnyT.takeD (i := 2) (d := some 37) (v := .pointer (some ⟨h, j, none⟩)) rfl rfl (by kernel_rfl) (by kernel_rfl) (by kernel_rfl) (by kernel_rfl) (fun _ _ _ h => h) (Or.inl ⟨by rfl, fun wz _ => by go_simp⟩) F0 ?_
      simp only [Act.put, List.setIfInBounds_toArray, List.set_cons_zero, List.set_cons_succ]
      refine AnyT.takeD (i := 3) (d := some 38) (v := .int .i64 z) rfl rfl (by kernel_rfl) (by kernel_rfl) (by kernel_rfl) (by kernel_rfl) (fun _ _ _ h => h) (Or.inl ⟨by rfl, fun wz hz => by have z0 := hz; go_simp⟩) F0 ?_
      simp only [Act.put, List.setIfInBounds_toArray, List.set_cons_zero, List.set_cons_succ]
      refine AnyT.takeD (i := 4) (d := some 39) (v := .pointer (some ⟨m, 0, none⟩)) rfl rfl (by kernel_rfl) (by kernel_rfl) (by kernel_rfl) (by kernel_rfl) (fun _ _ _ h => h) (Or.inl ⟨by rfl, fun wz _ => by go_simp⟩) F0 ?_
      simp only [Act.put, List.setIfInBounds_toArray, List.set_cons_zero, List.set_cons_succ]
-- TAKEN D1
      refine AnyT.branch (rs := [5]) (by kernel_rfl) (by simp) ?_
      refine all_cons ?_ all_nil
      obtain ⟨q1, e1⟩ : ∃ q, q = q0.alloc (.cells #[.int .i64 0, .int .i64 100, .int .i64 1000] 3) := ⟨_, rfl⟩
      have D1 := Lib.hid (show Below q0.heap.size q0 q1 by rw [e1]; exact (Below.refl _ _).alloc (Nat.le_refl _) _)
      have K1 := Lib.hid ((KK.out.stays' D0.out).stays' D1.out)
      have F1 : q1.cell? ⟨h, j, none⟩ = some (.int .i64 z) := (D1.out.cell (p := ⟨h, j, none⟩) (by have := D0.out.size; have := HGW.out; show h < _; omega)).trans F0
      have HPC := Lib.hid (show ∀ j, j < 3 → ∃ y : Int, q1.cell? ⟨q0.heap.size, j, none⟩ = some (.int .i64 y) ∧ (0 ≤ y ∧ y ≤ 1000) by
        rw [e1]; exact new_pick q0 3 _ [0, 100, 1000] PPR _ rfl)
      have HPL := Lib.hid (show q0.heap.size < q1.heap.size by rw [e1]; simp)
      refine AnyT.yield (i := 5) (d := some 40) (v := .slice (some ⟨q0.heap.size, 0, none⟩) 3 3) (w' := q1) rfl rfl rfl (by rw [e1]; go_simp) (fun _ => F1) ?_
      clear e1
      simp only [Act.put, List.setIfInBounds_toArray, List.set_cons_zero, List.set_cons_succ]
      refine AnyT.branch (rs := [6]) (by kernel_rfl) (by simp) ?_
      refine all_cons ?_ all_nil
      refine AnyT.enter (i := 6) (d := some 41) (f := 40) (args := #[.pointer (some ⟨m, 0, none⟩), .slice (some ⟨q0.heap.size, 0, none⟩) 3 3]) rfl rfl rfl (by go_simp) (pick_any m (NN + j) (fun y => 0 ≤ y ∧ y ≤ 1000) q0.heap.size 3 3 q1 K1.out (by have := HNN.out; have := HB10.out; have := HLT.out; omega) (by omega) (by omega) (by have := HGM.out; have := D0.out.size; have := HGW.out; omega) HPL.out HPC.out) ?_
      rintro e q2 ⟨p, rfl, ⟨hp0, hp1⟩, k2, mv2⟩
      have K2 := Lib.hid k2
      have V2 := Lib.hid mv2
      have F2 : q2.cell? ⟨h, j, none⟩ = some (.int .i64 z) := (mv2.cell (p := ⟨h, j, none⟩) (by have := D0.out.size; have := D1.out.size; have := HGW.out; show h < _; omega) (by have := HGM.out; show h ≠ m; omega)).trans F1
      have FZ2 : q2.frozen? ⟨h, j, none⟩ = false := (mv2.frozen (p := ⟨h, j, none⟩) (by have := D0.out.size; have := D1.out.size; have := HGW.out; show h < _; omega) (by have := HGM.out; show h ≠ m; omega)).trans ((D1.out.frozen (p := ⟨h, j, none⟩) (by have := D0.out.size; have := HGW.out; show h < _; omega)).trans ((D0.out.frozen (p := ⟨h, j, none⟩) HGW.out).trans HFZ.out))
      have hwp : IntKind.i64.wrap (z + p) = z + p := IntWalk.i64_in _ (by omega)
      clear k2 mv2
      refine ⟨_, rfl, fun _ => F2, ?_⟩
      simp only [Act.put, List.setIfInBounds_toArray, List.set_cons_zero, List.set_cons_succ]
-- TAKES D2
      refine AnyT.takeD (i := 7) (d := some 42) (v := .int .i64 (z + p)) rfl rfl (by kernel_rfl) (by kernel_rfl) (by kernel_rfl) (by kernel_rfl) (fun _ _ _ h => h) (Or.inl ⟨by rfl, fun wz _ => by go_simp⟩) F2 ?_
      simp only [Act.put, List.setIfInBounds_toArray, List.set_cons_zero, List.set_cons_succ]
      refine AnyT.takeD (i := 8) (d := some 43) (v := .pointer (some ⟨h, j, none⟩)) rfl rfl (by kernel_rfl) (by kernel_rfl) (by kernel_rfl) (by kernel_rfl) (fun _ _ _ h => h) (Or.inl ⟨by rfl, fun wz _ => by go_simp⟩) F2 ?_
      simp only [Act.put, List.setIfInBounds_toArray, List.set_cons_zero, List.set_cons_succ]
-- TAKEN D2
      refine AnyT.branch (rs := [9]) (by kernel_rfl) (by simp) ?_
      refine all_cons ?_ all_nil
      refine AnyT.step (i := 9) rfl (fun KZ hKZ => ?_)
      go_simp
      refine hKZ.out _ _ (fun h => absurd h (by decide)) ?_
      refine AnyT.done_ (by kernel_rfl) ?_ _
      have hbase : Below wr.heap.size wr q1 := D0.out.trans (D1.out.mono D0.out.size)
      have HN1 := Lib.hid (show ∃ ds, MoreR b ds (j + 1) ∧ Own .i64 3 (q2.setCell ⟨h, j, none⟩ (.int .i64 (z + p))) w5.heap.size (.slice (some ⟨h, 0, none⟩) bn cc) ds from
        ⟨_, HDS.out.set (by rw [← HBN.out]; exact HLT.out) hp0 hp1, by rw [← HZZ.out]; exact ((HOD.out.below hbase).moves V2.out HM5.out).store HDL.out j (z + p)⟩)
      have HN3 := Lib.hid (K2.out.setCell (p := ⟨h, j, none⟩) HGM.out (.int .i64 (z + p)))
      have HN4 := Lib.hid (((VV.out.trans (Moves.of_below hbase)).trans V2.out).setCell (p := ⟨h, j, none⟩) (Or.inr HG4.out) (.int .i64 (z + p)))
      clear F2 FZ2 hbase
      go_wp2_with fail
      go_roundw
      case rel => exact ⟨j + 1, by have := HLT.out; omega, by go_num, HN1, HN3, HN4⟩
      case measure => simp [intOf]; have := HLT.out; omega
    · have hltz : ¬ (j : Int) < (bn : Int) := by omega
      obtain ⟨ds, hds, od⟩ := OC.out
      have HDS := Lib.hid hds
      have HDL := Lib.hid (show bn = ds.length by rw [hds.1]; exact HBN.out)
      have K7 := Lib.hid (KK.out.alloc (.cells #[.int .i64 300, .int .i64 4000] 3))
      have V7 := Lib.hid (VV.out.alloc (.cells #[.int .i64 300, .int .i64 4000] 3))
      have O7 := Lib.hid (od.below (box1W wr (.cells #[.int .i64 300, .int .i64 4000] 3)))
      have HWZ := Lib.hid (show m < wr.heap.size from Nat.lt_of_lt_of_le HM5.out VV.out.size)
      clear hds od OC KK VV
      go_wp2_with fail
      refine (pick_any m (NN + j) (fun z => 300 ≤ z ∧ z ≤ 4000) wr.heap.size 2 2 _ K7.out (by have := HNN.out; have := HB10.out; omega) (by omega) (by omega) (by have := HWZ.out; omega) (by simp) (by exact new_pick _ _ (fun z => 300 ≤ z ∧ z ≤ 4000) [300, 4000] PPQ _ rfl)).mono ?_
      rintro e w8 ⟨p, rfl, hp, k8, m8⟩
      have K8 := Lib.hid k8
      have V8 := Lib.hid (V7.out.trans m8)
      have O8 := Lib.hid (O7.out.moves m8 HM5.out)
      have HPB := Lib.hid hp
      clear k8 m8 hp K7 V7 O7
      go_wp2_with (first | (at_builtin; refine wpList_appI _ rfl (.tmp 45) (.tmp 49) rfl w5.heap.size _ ds rfl (O8.out.alloc _) p w8 rfl _ rfl 1 rfl (by have := HDL.out; have := HB10.out; omega) (le_allocG V8.out.size) ?_; intro v9 w9 A9; have O9 := Lib.hid A9.1; have V9 := Lib.hid ((V8.out.alloc (.cells #[.int .i64 p] 3)).grown A9.2.1 (fun j hj => (own_block O8.out hj).1)); clear A9))
      obtain ⟨ZA, zc, rfl, -, -, -, -⟩ := O9.out.slice
      obtain ⟨zn, hzn⟩ : ∃ n, n = (ds ++ [p]).length := ⟨_, rfl⟩
      rw [← hzn] at ⊢
      have hz11 : (ds ++ [p]).length = bn + 1 := by rw [List.length_append, ← HDL.out]; rfl
      have HZT := Lib.hid (show trkE (ds ++ [p]) = 0 from trk_ok (by have := HB10.out; omega) (fun z hz => by
        rcases List.mem_append.1 hz with g | g
        · obtain ⟨i, hi, e⟩ := List.mem_iff_getElem.1 g
          have h1 := HDS.out.2 i (by rw [← HBN.out, HDL.out]; exact hi)
          have h2 := HTB.out _ (ld_mem (l := b) (k := i) (by rw [← HBN.out, HDL.out]; exact hi))
          have h3 : ld ds i = z := by unfold ld; rw [List.getD_eq_getElem?_getD, List.getElem?_eq_getElem hi, e]; rfl
          omega
        · rw [List.mem_singleton] at g
          have := HPB.out
          omega))
      have HTB0 := Lib.hid (show trkE b = 0 from trk_ok (by have := HBL.out; omega) (fun z hz => by have := HTB.out z hz; omega))
      have HMO := Lib.hid (show b.length ≤ (ds ++ [p]).length ∧ ∀ i, i < b.length → ld b i ≤ ld (ds ++ [p]) i from ⟨by rw [hz11, ← HBN.out]; omega, fun i hi => by
        have h1 := (HDS.out.2 i hi).1
        have h2 : ld (ds ++ [p]) i = ld ds i := by
          unfold ld
          rw [List.getD_eq_getElem?_getD, List.getD_eq_getElem?_getD, List.getElem?_append_left (by rw [HDS.out.1]; exact hi)]
        omega⟩)
      have I9 := Lib.hid (I5.out.moves V9.out HML.out)
      have Y9 := Lib.hid (show AB 43 w9 y [.slice jA jn jc, .int .i64 wt, .int .i64 st, .slice vA vn vc, .slice uA un uc, .slice kA kn kc] from (V9.out.block y Y5.out.lt (by have := HZW.out; omega)).trans Y5.out)
      have B9 := Lib.hid (V9.out.below B5.out (Nat.le_of_eq HMM.out.symm) B5.out.size)
      have HPC := Lib.hid (show Calls Tryz.prog 13 #[.slice IA L ic, .slice ZA zn zc] w9 (PlanPost17 l (ds ++ [p]) w9) from
        pplan_any l IA ic L (ds ++ [p]) ZA zn zc HLL.out.1 HIA.out hzn (by have := HB10.out; unfold maxLen; omega) w9 I9.out.irow (by have h9 := O9.out; rw [← hzn] at h9; exact (own_read h9).2.1))
      clear hzn hz11 O9 V9 Y5 B5 I5 HDS HPB O8 V8 K8
      refine HPC.out.mono ?_
      rintro e wa ⟨res', rf', er', sh', vr', rfl, hp', hsh', OR', Ba⟩
      have HP2 := Lib.hid hp'
      have HST2 := Lib.hid (show ∀ s tk, res' = some (s, tk) → sh'.st = s.st from fun s tk e => by subst e; exact hsh'.st)
      obtain ⟨zjA, zjn, zjc, zwt, zst, zvA, zvn, zvc, zuA, zun, zuc, zkA, zkn, zkc⟩ := sh'
      have BS := box1W wa (.cells #[.slice zjA zjn zjc, .int .i64 zwt, .int .i64 zst, .slice zvA zvn zvc, .slice zuA zun zuc, .slice zkA zkn zkc] 43)
      have Bab := Ba.trans (BS.mono Ba.size)
      have Zb := Lib.hid (show AB 43 (wa.alloc (.cells #[.slice zjA zjn zjc, .int .i64 zwt, .int .i64 zst, .slice zvA zvn zvc, .slice zuA zun zuc, .slice zkA zkn zkc] 43)) wa.heap.size [.slice zjA zjn zjc, .int .i64 zwt, .int .i64 zst, .slice zvA zvn zvc, .slice zuA zun zuc, .slice zkA zkn zkc] from AB.new wa [.slice zjA zjn zjc, .int .i64 zwt, .int .i64 zst, .slice zvA zvn zvc, .slice zuA zun zuc, .slice zkA zkn zkc] 43 wa.heap.size rfl)
      have Yb := Lib.hid (Y9.out.below Bab Y9.out.lt)
      have Bb := Lib.hid (B9.out.trans (Bab.mono B9.out.size))
      obtain ⟨rA', rc', rfl, -, -, -, -⟩ := OR'.slice
      clear hp' hsh' OR' Ba BS Bab HPC I9 Y9 B9
      simp only at HST2
      go_upto_region 12 with fail
      obtain ⟨yz, hyz⟩ : ∃ y, y = wa.heap.size := ⟨_, rfl⟩
      rw [← hyz] at Zb ⊢
      generalize wa.alloc (.cells #[.slice zjA zjn zjc, .int .i64 zwt, .int .i64 zst, .slice zvA zvn zvc, .slice zuA zun zuc, .slice zkA zkn zkc] 43) = wb at *
      clear hyz
      rcases HP.out with ⟨h0, rfl, rfl, h1⟩ | ⟨h0, q, hq, hpr⟩
      · rcases HP2.out with ⟨g0, rfl, rfl, g1⟩ | ⟨g0, _⟩
        · obtain rfl : er = 15 := h1.trans ((solE_cases HV.out).resolve_left h0)
          obtain rfl : er' = 15 := g1.trans ((solE_cases HV.out).resolve_left g0)
          clear h0 h1 g0 g1 Yb Zb
          go_wp2_with fail
          refine (HSN.out _).mono ?_
          rintro e wc ⟨rfl, Bc⟩
          have HB := Lib.hid (Bb.out.trans (Bc.mono Bb.out.size))
          clear Bc
          go_wp2_with fail
          go_ret
          exact ⟨rfl, HB.out⟩
        · exact absurd g0 h0
      · rcases HP2.out with ⟨g0, _⟩ | ⟨g0, q', hq', hpr'⟩
        · exact absurd h0 g0
        · obtain rfl := hq'.uniq hq
          have hst := fun e => room_steps hq HTB0.out HZT.out hpr hpr' HMO.out.1 HMO.out.2 e
          rcases plan_cases hq HTB0.out hpr with ⟨i, s, tk, -, -, -, e1, -, rfl, -, -, -⟩ | ⟨rfl, -⟩
          · obtain ⟨rfl, s1, tk1, s2, tk2, f1, f2, f3⟩ := hst rfl
            have hle : zst ≤ st := by rw [HST2.out s2 tk2 f2, HSST.out s1 tk1 f1]; exact f3
            have HLE := Lib.hid hle
            have y2 := Yb.out.cell 2 (u := .int .i64 st) rfl
            have z2 := Zb.out.cell 2 (u := .int .i64 zst) rfl
            clear h0 g0 hq hq' hpr hpr' e1 f1 f2 f3 hst
            go_wp2_with fail
            refine (HSN.out _).mono ?_
            rintro e wc ⟨rfl, Bc⟩
            have HB := Lib.hid (Bb.out.trans (Bc.mono Bb.out.size))
            clear Bc y2 z2
            go_wp2_with fail
            go_ret
            exact ⟨rfl, HB.out⟩
          · have her : er' = 0 ∨ er' = 14 := by
              rcases plan_cases hq HZT.out hpr' with ⟨i, s, tk, -, -, -, -, -, e, -⟩ | ⟨e, -⟩
              · exact Or.inl e
              · exact Or.inr e
            clear h0 g0 hq hq' hpr hpr' hst Yb Zb
            rcases her with rfl | rfl
            · go_wp2_with fail
              refine (HSN.out _).mono ?_
              rintro e wc ⟨rfl, Bc⟩
              have HB := Lib.hid (Bb.out.trans (Bc.mono Bb.out.size))
              clear Bc
              go_wp2_with fail
              go_ret
              exact ⟨rfl, HB.out⟩
            · go_wp2_with fail
              refine (HSN.out _).mono ?_
              rintro e wc ⟨rfl, Bc⟩
              have HB := Lib.hid (Bb.out.trans (Bc.mono Bb.out.size))
              clear Bc
              go_wp2_with fail
              go_ret
              exact ⟨rfl, HB.out⟩
theorem room_law (a : Option Addr) (len cap : Nat) (zs : List Int) (w : World) (h : IsRow .i64 w a len cap zs) : Calls Tryz.prog 9 #[.slice a len cap] w fun e w' => e = .returned (.bool true) ∧ Below w.heap.size w w' := by
  obtain ⟨l, rfl, hr, hm, hw⟩ := h.row
  exact room_walk a cap l w hr hm hw
end Go.Proofs.YtimkmieohkefiaaGreat
