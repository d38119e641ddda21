/-
  Stage 16: the walk of AssignLimits.
-/
import Derived.Test.YtknkgcphamhjlaaADuW
import Derived.Test.YtknkgcphamhjlaaReg
set_option linter.unusedSimpArgs false
set_option linter.unusedVariables false
namespace Go.Proofs.Ytknkgcphamhjlaa
open Go.RowKit Go.Lib

theorem tmod_lo (a d : Int) (h : 0 < d) : -d < a.tmod d ∧ a.tmod d < d := tmod_bd a d h
/-- n numbers, of which the first k are 38400. -/
def limK (n k : Nat) : List Int := List.replicate k 38400 ++ List.replicate (n - k) 0
theorem limK_len {n k : Nat} (h : k ≤ n) : (limK n k).length = n := by unfold limK; simp; omega
theorem limK_zero (n : Nat) : limK n 0 = List.replicate n 0 := by unfold limK; simp
theorem limK_all (n : Nat) : limK n n = List.replicate n 38400 := by unfold limK; simp
theorem limK_set {n k : Nat} (h : k < n) : (limK n k).set k 38400 = limK n (k + 1) := by
  unfold limK
  obtain ⟨d, hd⟩ : ∃ d, n - k = d + 1 := ⟨n - k - 1, by omega⟩
  rw [hd, show n - (k + 1) = d by omega, List.set_append_right _ _ (by simp)]
  rw [List.length_replicate, Nat.sub_self, List.replicate_succ, List.set_cons_zero, List.replicate_succ', List.append_assoc]; rfl
/-- The law's loads. -/
def limA (n : Nat) (by_ : Int) : List Int := (List.replicate n 38400).set (n / 2) (38400 + by_)
theorem limA_len (n : Nat) (q : Int) : (limA n q).length = n := by unfold limA; simp
theorem limA_zero (n : Nat) : limA n 0 = List.replicate n 38400 := by
  unfold limA
  refine List.ext_getElem? fun i => ?_
  rw [List.getElem?_set]
  split
  · rename_i e
    subst e
    split
    · rename_i h
      have h2 : n / 2 < n := by simpa using h
      rw [List.getElem?_replicate, if_pos h2]; rfl
    · rename_i h
      have h2 : ¬ n / 2 < n := by simpa using h
      rw [List.getElem?_replicate, if_neg h2]
  · rfl
theorem ld_rep {n i : Nat} (h : i < n) : ld (List.replicate n 38400) i = 38400 := by unfold ld; simp [List.getD_eq_getElem?_getD, h]
theorem cF_rep (n : Nat) : cF (List.replicate n 38400) 38400 = n := by
  rw [cF_list, List.countP_replicate]; simp
theorem vd_rep {n m : Nat} (hn : n ≤ 32) (hm : m ≤ 32) : Vd (List.replicate n 38400) (List.replicate m 38400) :=
  ⟨by simpa using hn, by simpa using hm, fun z hz => by have := List.eq_of_mem_replicate hz; omega, fun z hz => by have := List.eq_of_mem_replicate hz; omega⟩
theorem val_many {n m : Nat} {q : Int} (h : 32 < n ∨ 32 < m) : valR (limA n q) (List.replicate m 38400) = 3 := valR_big (by rw [limA_len]; simpa using h)
theorem val_over {n m : Nat} (hn : n ≤ 32) (hm : m ≤ 32) (h : 1 ≤ n) : valR (limA n 1) (List.replicate m 38400) = 2 := by
  refine valR_no (by rw [limA_len]; simp; omega) (Or.inl ?_)
  have hx : (38401 : Int) ∈ limA n 1 := by
    unfold limA
    exact List.mem_iff_getElem?.2 ⟨n / 2, by rw [List.getElem?_set_self (by simp; omega)]; rfl⟩
  cases hq : okF 0 (limA n 1) with
  | false => rfl
  | true => have := okF_mem hq _ hx; omega
/-- What Match says of loads and tracks of the greatest length. -/
theorem lim_cases {n m : Nat} (hn : n ≤ 32) (hm : m ≤ 32) {os : List Nat} {l r : List Int} {e : Int} (O : IsOrd (limA n 0) os) (h : MOut (limA n 0) (List.replicate m 38400) os l r e) :
    (n ≤ m ∧ e = 0 ∧ r = [] ∧ fitR (limA n 0) (List.replicate m 38400) l = true) ∨ (m < n ∧ e = 14 ∧ l = [] ∧ r.length = m + 1 ∧ refR (limA n 0) (List.replicate m 38400) r = true) := by
  rw [limA_zero] at *
  have V := vd_rep hn hm
  rcases mout_cases V O h with ⟨h1, h2, G, H⟩ | ⟨h1, h2, h3, h4, H, k, hk, h5, h6⟩
  · refine Or.inl ⟨?_, h1, h2, fit_asg V G⟩
    have := H 38400 (by omega)
    rw [cF_rep, cF_rep] at this
    exact this
  · have hx := O.at_ hk
    rw [List.length_replicate] at hx
    rw [ld_rep hx.1, cF_rep] at h6
    subst h6
    have hkn : m < n := by have := O.len; rw [List.length_replicate] at this; omega
    exact Or.inr ⟨hkn, h1, h2, h5, h3⟩
theorem blk_eq {ga n c g : Nat} (hg : (Value.slice (some ⟨ga, 0, none⟩) n c).ownBlock = some g) : g = ga := by simpa [Value.ownBlock] using hg.symm
/-- Both lists. -/
structure LimS (w wx : World) (ga gb N M : Nat) (xs ys : List Int) : Prop where
  oa : Own .i64 3 wx w.heap.size (.slice (some ⟨ga, 0, none⟩) N N) xs
  ob : Own .i64 3 wx w.heap.size (.slice (some ⟨gb, 0, none⟩) M M) ys
  ne : ga ≠ gb
  bel : Below w.heap.size w wx
theorem LimS.setA {w wx : World} {ga gb N M : Nat} {xs ys : List Int} (h : LimS w wx ga gb N M xs ys) (hN : N = xs.length) (i : Nat) (v : Int) : LimS w (wx.setCell ⟨ga, i, none⟩ (.int .i64 v)) ga gb N M (xs.set i v) ys :=
  ⟨h.oa.store hN i v, h.ob.setN (p := ⟨ga, i, none⟩) (fun g hg => by rw [blk_eq hg]; exact Ne.symm h.ne) _, h.ne, h.bel.setCell (p := ⟨ga, i, none⟩) (own_block h.oa (g := ga) rfl).1 _⟩
theorem LimS.setB {w wx : World} {ga gb N M : Nat} {xs ys : List Int} (h : LimS w wx ga gb N M xs ys) (hM : M = ys.length) (i : Nat) (v : Int) : LimS w (wx.setCell ⟨gb, i, none⟩ (.int .i64 v)) ga gb N M xs (ys.set i v) :=
  ⟨h.oa.setN (p := ⟨gb, i, none⟩) (fun g hg => by rw [blk_eq hg]; exact h.ne) _, h.ob.store hM i v, h.ne, h.bel.setCell (p := ⟨gb, i, none⟩) (own_block h.ob (g := gb) rfl).1 _⟩
def tlM (_ : Nat) : Bool := false
def TrueM (_ : World) : Prop := True
theorem TrueM.i (w : World) : TrueM w := trivial
set_option maxRecDepth 400000 in
set_option maxHeartbeats 6400000 in
theorem limits_walk (a0 a1 a2 : Int) (w : World) (b0 : -9223372036854775808 ≤ a0) (b0' : a0 ≤ 9223372036854775807) (b1 : -9223372036854775808 ≤ a1) (b1' : a1 ≤ 9223372036854775807) (b2 : -9223372036854775808 ≤ a2) (b2' : a2 ≤ 9223372036854775807) :
    Calls Try.prog 3 #[.int .i64 a0, .int .i64 a1, .int .i64 a2] w fun e w' => e = .returned (.bool true) ∧ Below w.heap.size w w' := by
  obtain ⟨t0, t0'⟩ := tmod_bd a0 3 (by decide)
  obtain ⟨t1, t1'⟩ := tmod_bd a1 3 (by decide)
  obtain ⟨t2, t2'⟩ := tmod_bd a2 2 (by decide)
  obtain ⟨N, hN⟩ := Int.eq_ofNat_of_zero_le (show 0 ≤ 31 + a0.tmod 3 % 3 by omega)
  obtain ⟨M, hM⟩ := Int.eq_ofNat_of_zero_le (show 0 ≤ 31 + a1.tmod 3 % 3 by omega)
  obtain ⟨Q, hQ⟩ := Int.eq_ofNat_of_zero_le (show 0 ≤ (a2.tmod 2 + 2) % 2 by omega)
  have hN1 : 31 ≤ N ∧ N ≤ 33 := by omega
  have hM1 : 31 ≤ M ∧ M ≤ 33 := by omega
  have hQ1 : Q ≤ 1 := by omega
  have HN := Lib.hid hN
  have HM := Lib.hid hM
  have HQ := Lib.hid hQ
  clear hN hM hQ
  go_enter Try.func3, Try.ntmps3
  go_upto_region 2 with fail
  rw [HN.out, HM.out, HQ.out]
  clear HN HM HQ
  obtain ⟨hN1, hN2⟩ := hN1
  obtain ⟨hM1, hM2⟩ := hM1
  generalize (a0.tmod 3 + 3) % 3 = d1
  generalize (a1.tmod 3 + 3) % 3 = d2
  generalize a0.tmod 3 + 3 = d3
  generalize a1.tmod 3 + 3 = d4
  generalize a2.tmod 2 + 2 = d5
  generalize a0.tmod 3 = d6 at *
  generalize a1.tmod 3 = d7 at *
  generalize a2.tmod 2 = d8 at *
  clear t0 t0' t1 t1' t2 t2' b0 b0' b1 b1' b2 b2'
  obtain ⟨csN, hcN⟩ : ∃ c, c = ((List.replicate N 0).map (Value.int .i64)).toArray := ⟨_, rfl⟩
  obtain ⟨csM, hcM⟩ : ∃ c, c = ((List.replicate M 0).map (Value.int .i64)).toArray := ⟨_, rfl⟩
  have hmkN := fun W => make_intsA W N (by omega)
  have hmkM := fun W => make_intsA W M (by omega)
  have HCN := Lib.hid hcN
  have HCM := Lib.hid hcM
  rw [← hcN] at hmkN
  rw [← hcM] at hmkM
  clear hcN hcM
  have HON := Lib.hid (show ∀ W : World, Own .i64 3 (W.alloc (.cells csN 3)) W.heap.size (.slice (some ⟨W.heap.size, 0, none⟩) N N) (List.replicate N 0) from fun W => by
    rw [HCN.out]; exact Own.laid W W.heap.size (Nat.le_refl _) _ N (by simp) (by omega))
  have HOM := Lib.hid (show ∀ W : World, Own .i64 3 (W.alloc (.cells csM 3)) W.heap.size (.slice (some ⟨W.heap.size, 0, none⟩) M M) (List.replicate M 0) from fun W => by
    rw [HCM.out]; exact Own.laid W W.heap.size (Nat.le_refl _) _ M (by simp) (by omega))
  go_cut [7, 8] from 28 to 31 (fun av bv wx => ∃ ga gb, av = .slice (some ⟨ga, 0, none⟩) N N ∧ bv = .slice (some ⟨gb, 0, none⟩) M M ∧ Hid (LimS w wx ga gb N M (List.replicate N 0) (List.replicate M 0)))
  case first =>
    obtain ⟨q0, e0⟩ : ∃ q, q = w.drew := ⟨_, rfl⟩
    have HB0 := Lib.hid (show Below w.heap.size w q0 by rw [e0]; exact (Below.refl _ _).drew)
    have HE0 := Lib.hid e0
    clear e0
    refine AnyT.begin_at tlM TrueM (by kernel_rfl) HE0.out (TrueM.i _) ?_
    intro F0
-- TAKES L0
    refine AnyT.takeD (i := 0) (d := some 28) (v := .int .i64 (N : Int)) rfl rfl (by decide +kernel) (by decide +kernel) (by decide +kernel) (by decide +kernel) (fun _ _ _ h => h) (Or.inl ⟨by rfl, fun wz _ => by go_simp⟩) F0 ?_
    simp only [Act.put, List.setIfInBounds_toArray, List.set_cons_zero, List.set_cons_succ]
    refine AnyT.takeD (i := 2) (d := some 30) (v := .int .i64 (M : Int)) rfl rfl (by decide +kernel) (by decide +kernel) (by decide +kernel) (by decide +kernel) (fun _ _ _ h => h) (Or.inl ⟨by rfl, fun wz _ => by go_simp⟩) F0 ?_
    simp only [Act.put, List.setIfInBounds_toArray, List.set_cons_zero, List.set_cons_succ]
-- TAKEN L0
    refine AnyT.branch (rs := [1, 3]) (by decide +kernel) (by simp) ?_
    refine (all_cons ?_ (all_cons ?_ all_nil))
    · obtain ⟨q1, e1⟩ : ∃ q, q = q0.alloc (.cells csN 3) := ⟨_, rfl⟩
      have O1 := Lib.hid (show Own .i64 3 q1 w.heap.size (.slice (some ⟨q0.heap.size, 0, none⟩) N N) (List.replicate N 0) by rw [e1]; exact (HON.out q0).base HB0.out.size)
      have HB1 := Lib.hid (show Below w.heap.size w q1 by rw [e1]; exact HB0.out.alloc HB0.out.size _)
      have HS1 := Lib.hid (show q1.heap.size = q0.heap.size + 1 by rw [e1]; simp)
      refine AnyT.yield (i := 1) (d := some 29) (v := .slice (some ⟨q0.heap.size, 0, none⟩) N N) (w' := q1) rfl rfl rfl (by rw [e1]; go_simp) (fun _ => TrueM.i _) ?_
      clear e1
      simp only [Act.put, List.setIfInBounds_toArray, List.set_cons_zero, List.set_cons_succ]
      have F1 := TrueM.i q1
-- TAKES L1a
      refine AnyT.takeD (i := 4) (d := some 7) (v := .slice (some ⟨q0.heap.size, 0, none⟩) N N) rfl rfl (by decide +kernel) (by decide +kernel) (by decide +kernel) (by decide +kernel) (fun _ _ _ h => h) (Or.inl ⟨by rfl, fun wz _ => by go_simp⟩) F1 ?_
      simp only [Act.put, List.setIfInBounds_toArray, List.set_cons_zero, List.set_cons_succ]
-- TAKEN L1a
      refine AnyT.branch (rs := [3]) (by decide +kernel) (by simp) ?_
      refine (all_cons ?_ all_nil)
      obtain ⟨q2, e2⟩ : ∃ q, q = q1.alloc (.cells csM 3) := ⟨_, rfl⟩
      have HL := Lib.hid (show LimS w q2 q0.heap.size q1.heap.size N M (List.replicate N 0) (List.replicate M 0) from ⟨by rw [e2]; exact O1.out.alloc _, by rw [e2]; exact (HOM.out q1).base HB1.out.size, by have := HS1.out; omega, by rw [e2]; exact HB1.out.alloc HB1.out.size _⟩)
      refine AnyT.yield (i := 3) (d := some 31) (v := .slice (some ⟨q1.heap.size, 0, none⟩) M M) (w' := q2) rfl rfl rfl (by rw [e2]; go_simp) (fun _ => TrueM.i _) ?_
      clear e2
      simp only [Act.put, List.setIfInBounds_toArray, List.set_cons_zero, List.set_cons_succ]
      have F2 := TrueM.i q2
-- TAKES L1b
      refine AnyT.takeD (i := 5) (d := some 8) (v := .slice (some ⟨q1.heap.size, 0, none⟩) M M) rfl rfl (by decide +kernel) (by decide +kernel) (by decide +kernel) (by decide +kernel) (fun _ _ _ h => h) (Or.inl ⟨by rfl, fun wz _ => by go_simp⟩) F2 ?_
      simp only [Act.put, List.setIfInBounds_toArray, List.set_cons_zero, List.set_cons_succ]
-- TAKEN L1b
      refine AnyT.done_ (by kernel_rfl) ?_ _
      go_wp2_with fail
      go_meet
      case rel => exact ⟨_, _, rfl, rfl, HL⟩
    · obtain ⟨q1, e1⟩ : ∃ q, q = q0.alloc (.cells csM 3) := ⟨_, rfl⟩
      have O1 := Lib.hid (show Own .i64 3 q1 w.heap.size (.slice (some ⟨q0.heap.size, 0, none⟩) M M) (List.replicate M 0) by rw [e1]; exact (HOM.out q0).base HB0.out.size)
      have HB1 := Lib.hid (show Below w.heap.size w q1 by rw [e1]; exact HB0.out.alloc HB0.out.size _)
      have HS1 := Lib.hid (show q1.heap.size = q0.heap.size + 1 by rw [e1]; simp)
      refine AnyT.yield (i := 3) (d := some 31) (v := .slice (some ⟨q0.heap.size, 0, none⟩) M M) (w' := q1) rfl rfl rfl (by rw [e1]; go_simp) (fun _ => TrueM.i _) ?_
      clear e1
      simp only [Act.put, List.setIfInBounds_toArray, List.set_cons_zero, List.set_cons_succ]
      have F1 := TrueM.i q1
-- TAKES L2a
-- TAKEN L2a
      refine AnyT.branch (rs := [1]) (by decide +kernel) (by simp) ?_
      refine (all_cons ?_ all_nil)
      obtain ⟨q2, e2⟩ : ∃ q, q = q1.alloc (.cells csN 3) := ⟨_, rfl⟩
      have HL := Lib.hid (show LimS w q2 q1.heap.size q0.heap.size N M (List.replicate N 0) (List.replicate M 0) from ⟨by rw [e2]; exact (HON.out q1).base HB1.out.size, by rw [e2]; exact O1.out.alloc _, by have := HS1.out; omega, by rw [e2]; exact HB1.out.alloc HB1.out.size _⟩)
      refine AnyT.yield (i := 1) (d := some 29) (v := .slice (some ⟨q1.heap.size, 0, none⟩) N N) (w' := q2) rfl rfl rfl (by rw [e2]; go_simp) (fun _ => TrueM.i _) ?_
      clear e2
      simp only [Act.put, List.setIfInBounds_toArray, List.set_cons_zero, List.set_cons_succ]
      have F2 := TrueM.i q2
-- TAKES L2b
      refine AnyT.takeD (i := 4) (d := some 7) (v := .slice (some ⟨q1.heap.size, 0, none⟩) N N) rfl rfl (by decide +kernel) (by decide +kernel) (by decide +kernel) (by decide +kernel) (fun _ _ _ h => h) (Or.inl ⟨by rfl, fun wz _ => by go_simp⟩) F2 ?_
      simp only [Act.put, List.setIfInBounds_toArray, List.set_cons_zero, List.set_cons_succ]
      refine AnyT.takeD (i := 5) (d := some 8) (v := .slice (some ⟨q0.heap.size, 0, none⟩) M M) rfl rfl (by decide +kernel) (by decide +kernel) (by decide +kernel) (by decide +kernel) (fun _ _ _ h => h) (Or.inl ⟨by rfl, fun wz _ => by go_simp⟩) F2 ?_
      simp only [Act.put, List.setIfInBounds_toArray, List.set_cons_zero, List.set_cons_succ]
-- TAKEN L2b
      refine AnyT.done_ (by kernel_rfl) ?_ _
      go_wp2_with fail
      go_meet
      case rel => exact ⟨_, _, rfl, rfl, HL⟩
  case rest =>
    obtain ⟨ga, gb, rfl, rfl, S0⟩ := hcut
    rw [← limK_zero, ← limK_zero] at S0
    clear hmkN hmkM HCN HCM HON HOM
    go_wp2_with fail
    go_loopw [34] (fun iv wr => ∃ i : Nat, i ≤ N ∧ iv = .int .i64 (i : Int) ∧ Hid (LimS w wr ga gb N M (limK N i) (limK M 0))) (fun iv _ => N - (intOf iv).toNat)
    case atStart => exact ⟨0, by omega, rfl, S0⟩
    case round =>
      clear S0
      obtain ⟨i, hi, rfl, S⟩ := hrel
      by_cases hlt : i < N
      · have hltz : (i : Int) < (N : Int) := by omega
        have hc := S.out.oa.cell (limK_len hi).symm i (by rw [limK_len hi]; exact hlt)
        have hf := S.out.oa.frozen (limK_len hi).symm i
        have S2 := Lib.hid (S.out.setA (limK_len hi).symm i 38400)
        rw [limK_set hlt] at S2
        generalize (limK N i).getD i 0 = z at hc
        go_wp2_with fail
        go_roundw
        case rel => exact ⟨i + 1, by omega, by go_num, S2⟩
        case measure => simp [intOf]; omega
      · obtain rfl : i = N := by omega
        have hltz : ¬ (i : Int) < (i : Int) := by omega
        generalize wr = wo at *
        go_wp2_with fail
        clear hltz hlt
        go_loopw [43] (fun jv wr => ∃ j : Nat, j ≤ M ∧ jv = .int .i64 (j : Int) ∧ Hid (LimS w wr ga gb i M (limK i i) (limK M j))) (fun jv _ => M - (intOf jv).toNat)
        case atStart => exact ⟨0, by omega, rfl, S⟩
        case round =>
          clear S
          obtain ⟨j, hj, rfl, S⟩ := hrel
          by_cases hlt : j < M
          · have hltz : (j : Int) < (M : Int) := by omega
            have hc := S.out.ob.cell (limK_len hj).symm j (by rw [limK_len hj]; exact hlt)
            have hf := S.out.ob.frozen (limK_len hj).symm j
            have S2 := Lib.hid (S.out.setB (limK_len hj).symm j 38400)
            rw [limK_set hlt] at S2
            generalize (limK M j).getD j 0 = z at hc
            go_wp2_with fail
            go_roundw
            case rel => exact ⟨j + 1, by omega, by go_num, S2⟩
            case measure => simp [intOf]; omega
          · obtain rfl : j = M := by omega
            have hltz : ¬ (j : Int) < (j : Int) := by omega
            rw [limK_all, limK_all] at S
            obtain ⟨hf2, hh⟩ : ∃ x, x = i / 2 := ⟨_, rfl⟩
            have hfi : hf2 < i := by omega
            have eH : (i : Int) / 2 = (hf2 : Int) := by omega
            have hc := S.out.oa.cell (by simp) hf2 (by simpa using hfi)
            have hcv : (List.replicate i (38400 : Int)).getD hf2 0 = 38400 := ld_rep hfi
            rw [hcv] at hc
            have hf := S.out.oa.frozen (by simp) hf2
            have S2 := Lib.hid (S.out.setA (by simp) hf2 (38400 + (Q : Int)))
            have HHH := Lib.hid hh
            have HEH := Lib.hid eH
            have hq1 : IntKind.i64.wrap (38400 + (Q : Int)) = 38400 + (Q : Int) := IntWalk.i64_in _ (by omega)
            have eT : (i : Int).tdiv 2 = (hf2 : Int) := by rw [Int.tdiv_eq_ediv_of_nonneg (by omega)]; exact eH
            have hfz : (hf2 : Int) < (i : Int) := by omega
            have hla : limA i (Q : Int) = (List.replicate i 38400).set hf2 (38400 + (Q : Int)) := by unfold limA; rw [hh]
            rw [← hla] at S2
            clear hcv hh hla S
            go_upto_region 14 with fail
            clear hc hf hq1 eT hfz hltz hfi eH hj hi hlt
            generalize wr.setCell ⟨ga, hf2, none⟩ (.int .i64 (38400 + (Q : Int))) = w4 at *
            clear HHH HEH
            obtain ⟨A1, c1, e1, r1, -, m1, -⟩ := S2.out.oa.slice
            obtain ⟨A2, c2, e2, r2, -, m2, -⟩ := S2.out.ob.slice
            injection e1 with e1 _ e1'
            injection e2 with e2 _ e2'
            subst e1
            subst e2
            have R1 := Lib.hid r1
            have R2 := Lib.hid r2
            have HMA := Lib.hid (match_n (limA i (Q : Int)) (List.replicate j 38400) i j (limA_len i _).symm (by simp) (some ⟨ga, 0, none⟩) (some ⟨gb, 0, none⟩) i j w4 r1 (by unfold maxLen; omega) r2 (by unfold maxLen; omega))
            have HBW := Lib.hid S2.out.bel
            clear r1 r2 m1 m2 e1' e2' S2
            obtain ⟨aa, haa⟩ : ∃ x, x = limA i (Q : Int) := ⟨_, rfl⟩
            obtain ⟨bb, hbb⟩ : ∃ x, x = List.replicate j (38400 : Int) := ⟨_, rfl⟩
            rw [← haa] at R1 HMA
            rw [← hbb] at R2 HMA
            have HAA := Lib.hid haa
            have HBB := Lib.hid hbb
            clear haa hbb
            have HNN := Lib.hid (show (31 ≤ i ∧ i ≤ 33) ∧ (31 ≤ j ∧ j ≤ 33) ∧ Q ≤ 1 from ⟨⟨hN1, hN2⟩, ⟨hM1, hM2⟩, hQ1⟩)
            clear hN1 hN2 hM1 hM2 hQ1
            rename_i ha2 Qz kb ha1 kc ha0
            clear ha0 kc Qz ha2
            go_wp2_with fail
            refine HMA.out.mono ?_
            rintro e w5 ⟨os, vl, vr, l, r, er, rfl, O, MO, ol, orr, b5⟩
            rw [HAA.out] at R1 O MO
            rw [HBB.out] at R2 MO
            have HB5 := Lib.hid (HBW.out.trans (b5.mono HBW.out.size))
            have R1 := Lib.hid (R1.out.below b5)
            have R2 := Lib.hid (R2.out.below b5)
            obtain ⟨A3, c3, rfl, r3, -, m3, -⟩ := ol.slice
            obtain ⟨A4, c4, rfl, r4, -, m4, -⟩ := orr.slice
            clear HMA b5 HBW ol orr
            obtain ⟨⟨hN1, hN2⟩, ⟨hM1, hM2⟩, hQ1⟩ := HNN.out
            by_cases hbig : 32 < i ∨ 32 < j
            · have hv := val_many (q := (Q : Int)) hbig
              have hres : l = [] ∧ r = [] ∧ er = 3 := by
                rcases MO with ⟨_, h1, h2, h3⟩ | ⟨h1, _⟩ | ⟨h1, _⟩
                · exact ⟨h1, h2, h3.trans hv⟩
                · rw [hv] at h1; cases h1
                · rw [hv] at h1; cases h1
              obtain ⟨rfl, rfl, rfl⟩ := hres
              clear hv MO O r3 r4 m3 m4 R1 R2
              have HBG := Lib.hid hbig
              clear hbig hN1 hN2 hM1 hM2 hQ1
              by_cases hi32 : 32 < i
              · have z1 : (32 : Int) < (i : Int) := by omega
                clear hi32
                go_wp2_with fail
                refine (sane_any w5).mono ?_
                rintro e w6 ⟨rfl, b6⟩
                have HB6 := Lib.hid (HB5.out.trans (b6.mono HB5.out.size))
                clear b6
                go_wp2_with fail
                go_ret
                exact ⟨rfl, HB6.out⟩
              · have z1 : ¬ (32 : Int) < (i : Int) := by omega
                have z2 : (32 : Int) < (j : Int) := by have := HBG.out; omega
                clear hi32
                go_wp2_with fail
                refine (sane_any w5).mono ?_
                rintro e w6 ⟨rfl, b6⟩
                have HB6 := Lib.hid (HB5.out.trans (b6.mono HB5.out.size))
                clear b6
                go_wp2_with fail
                go_ret
                exact ⟨rfl, HB6.out⟩
            · have z1 : ¬ (32 : Int) < (i : Int) := by omega
              have z2 : ¬ (32 : Int) < (j : Int) := by omega
              have hi32 : i ≤ 32 := by omega
              have hj32 : j ≤ 32 := by omega
              have hq01 : Q = 0 ∨ Q = 1 := by omega
              rcases hq01 with rfl | rfl
              · rcases lim_cases hi32 hj32 O MO with ⟨h1, rfl, rfl, h3⟩ | ⟨h1, rfl, rfl, h3, h4⟩
                · have z3 : ¬ (j : Int) < (i : Int) := by omega
                  have HFT := Lib.hid (fits_any (limA i 0) (List.replicate j 38400) l (some ⟨ga, 0, none⟩) (some ⟨gb, 0, none⟩) A3 i j c3 w5 R1.out (by rw [limA_len]; unfold maxLen; omega) R2.out (by unfold maxLen; simp; omega) r3 m3)
                  rw [h3, limA_len, List.length_replicate] at HFT
                  obtain ⟨Z, hZ⟩ : ∃ n, n = l.length := ⟨_, rfl⟩
                  rw [← hZ] at HFT ⊢
                  clear h3 hZ MO O r3 r4 m3 m4 R1 R2 h1 hbig hN1 hN2 hM1 hM2 hQ1 hi32 hj32
                  go_wp2_with fail
                  refine HFT.out.mono ?_
                  rintro e w6 ⟨rfl, b6⟩
                  have HB6 := Lib.hid (HB5.out.trans (b6.mono HB5.out.size))
                  clear b6 HFT
                  go_wp2_with fail
                  refine (sane_any w6).mono ?_
                  rintro e w7 ⟨rfl, b7⟩
                  have HB7 := Lib.hid (HB6.out.trans (b7.mono HB6.out.size))
                  clear b7
                  go_wp2_with fail
                  go_ret
                  exact ⟨rfl, HB7.out⟩
                · have z3 : (j : Int) < (i : Int) := by omega
                  have HFT := Lib.hid (refuses_any (limA i 0) (List.replicate j 38400) r (some ⟨ga, 0, none⟩) (some ⟨gb, 0, none⟩) A4 i j c4 w5 R1.out (by rw [limA_len]; unfold maxLen; omega) R2.out (by unfold maxLen; simp; omega) r4 m4)
                  rw [h4, limA_len, List.length_replicate, h3] at HFT
                  have hzz : (((j + 1 : Nat) : Int) == (j : Int) + 1) = true := by simp
                  rw [h3]
                  clear h3 h4 MO O r3 r4 m3 m4 R1 R2 h1 hbig hN1 hN2 hM1 hM2 hQ1 hi32 hj32
                  go_wp2_with fail
                  refine HFT.out.mono ?_
                  rintro e w6 ⟨rfl, b6⟩
                  have HB6 := Lib.hid (HB5.out.trans (b6.mono HB5.out.size))
                  clear b6 HFT
                  go_wp2_with fail
                  refine (sane_any w6).mono ?_
                  rintro e w7 ⟨rfl, b7⟩
                  have HB7 := Lib.hid (HB6.out.trans (b7.mono HB6.out.size))
                  clear b7
                  go_wp2_with fail
                  go_ret
                  exact ⟨rfl, HB7.out⟩
              · have hv := val_over hi32 hj32 (by omega)
                have hres : l = [] ∧ r = [] ∧ er = 2 := by
                  rcases MO with ⟨_, h1, h2, h3⟩ | ⟨h1, _⟩ | ⟨h1, _⟩
                  · exact ⟨h1, h2, h3.trans hv⟩
                  · exact absurd (h1.symm.trans hv) (by decide)
                  · exact absurd (h1.symm.trans hv) (by decide)
                obtain ⟨rfl, rfl, rfl⟩ := hres
                clear hv MO O r3 r4 m3 m4 R1 R2 hbig hN1 hN2 hM1 hM2 hQ1 hi32 hj32
                go_wp2_with fail
                refine (sane_any w5).mono ?_
                rintro e w6 ⟨rfl, b6⟩
                have HB6 := Lib.hid (HB5.out.trans (b6.mono HB5.out.size))
                clear b6
                go_wp2_with fail
                go_ret
                exact ⟨rfl, HB6.out⟩
end Go.Proofs.Ytknkgcphamhjlaa
