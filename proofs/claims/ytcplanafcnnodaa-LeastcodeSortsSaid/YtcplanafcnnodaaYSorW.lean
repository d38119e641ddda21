/-
  Stage 13: the walk of LeastcodeSorts.
-/
import Derived.Test.YtcplanafcnnodaaYSrt
import Derived.Test.YtcplanafcnnodaaYMx
import Derived.Test.YtcplanafcnnodaaKRef
set_option linter.unusedSimpArgs false
set_option linter.unusedVariables false
namespace Go.Proofs.Ytcplanafcnnodaa
open Go.RowKit Go.Lib

set_option maxRecDepth 100000 in
set_option maxHeartbeats 3200000 in
theorem sor_walk (A : Option Addr) (c : Nat) (zs : List Int) (w : World) (hr : Row .i64 w w.heap.size A zs) (hm : zs.length ≤ maxLen) (hw : ∀ n ∈ zs, (Lit.int .i64 n).wf = true) :
    Calls Try.prog 6 #[.slice A zs.length c] w fun e w' => e = .returned (.bool true) ∧ Below w.heap.size w w' := by
  have K := Lib.hid (mk_row (c := c) (T := 65) hr hm hw)
  have B := Lib.hid ((Below.refl w.heap.size w).alloc (Nat.le_refl _) (.cells #[.slice A zs.length c, .int .i64 0] 65))
  clear hr hw
  go_enter Try.func6, Try.ntmps6
  go_wp2_with fail
  refine (new_any A zs.length c w).mono ?_
  rintro e w1 ⟨rfl, hw1⟩
  rw [← hw1] at K B
  clear hw1 hm
  go_wp2_with fail
  refine mjob_start w w1 16 (by omega) K.out B.out ?_
  intro jA jc l wt w2 hl hlt hS
  obtain ⟨b, hb⟩ : ∃ b, b = w2.heap.size := ⟨_, rfl⟩
  have S := Lib.hid (hS b hb)
  clear K B hS hlt
  go_upto_region 2 with fail
  rw [← hb]
  generalize w2.alloc (.cells #[.slice jA l.length jc, .int .i64 wt] 24) = w3 at *
  clear hb
  obtain ⟨L, hL⟩ : ∃ n, n = l.length := ⟨_, rfl⟩
  have HL := Lib.hid hL
  have HC := Lib.hid (fun (W : World) (k : IRow W jA l) => least_any l jA jc L wt hL W k)
  have HWI := Lib.hid (fun (W : World) (k : IRow W jA l) => witness_any l jA jc L wt hL W k)
  have J := S.out.box
  rw [← hL] at J hl ⊢
  obtain ⟨j0, j1, jl⟩ := J
  clear hL
  go_wp2_with fail
  refine (HC.out w3 S.out.irow).mono ?_
  rintro e w4 ⟨st, pA, pn, pc, er, v, rfl, O, B4, hr⟩
  have HR := Lib.hid (hr.valid S.out.val)
  obtain ⟨g1, hg1⟩ : ∃ g, g = w4.heap.size := ⟨_, rfl⟩
  have P1 := Lib.hid (PSt.new (st := st) (m := w.heap.size) O (Nat.lt_trans S.out.lt S.out.box.lt) g1 hg1 (by rw [hg1]; exact Nat.lt_of_lt_of_le (Nat.lt_trans S.out.lt S.out.box.lt) B4.size))
  have BX := (Below.refl w4.heap.size w4).alloc (Nat.le_refl _) (.cells #[.int .i64 st, .slice pA pn pc] 29)
  have S4 := Lib.hid ((S.out.below B4).below BX)
  clear j0 j1 jl S O B4 hr BX
  go_upto_region 3 with fail
  rw [← hg1]
  generalize w4.alloc (.cells #[.int .i64 st, .slice pA pn pc] 29) = w5 at *
  clear hg1
  have J := S4.out.box
  rw [← HL.out] at J
  obtain ⟨j0, j1, jl⟩ := J
  rcases HR.out with ⟨rfl, rfl, rfl, hno⟩ | ⟨rfl, bs, hsol, hst⟩
  · have HNO := Lib.hid hno
    clear HR hno
    go_wp2_with fail
    refine (HWI.out w5 S4.out.irow).mono ?_
    rintro e w6 ⟨u, er, cs, rfl, O6, B6, hw6⟩
    have her : er = 15 := by
      rcases hw6.valid S4.out.val with ⟨h1, _⟩ | ⟨_, b', v', h', _⟩
      · exact h1
      · exact absurd h' (HNO.out _ _)
    subst her
    have HB6 := Lib.hid (S4.out.bel.trans (B6.mono S4.out.bel.size))
    clear j0 j1 jl O6 B6 hw6
    go_wp2_with fail
    refine (sane13_any _).mono ?_
    rintro e wz ⟨rfl, BZ⟩
    have HZ := Lib.hid (HB6.out.trans (BZ.mono HB6.out.size))
    clear BZ
    go_wp2_with fail
    go_ret
    exact ⟨rfl, HZ.out⟩
  · have hf := S4.out.form
    have HPL := Lib.hid (hsol.plan hf)
    have HVB := Lib.hid (fun y => (hsol.bound hf y).1)
    have HST := Lib.hid (steps_mx0 hst (fun y => (hsol.bound hf y).1.1))
    have hpn : pn = L := by rw [P1.out.len, hsol.vlen, HL.out]
    have hvl : v.length = L := by rw [hsol.vlen, HL.out]
    have HVL := Lib.hid hvl
    have HWN := Lib.hid hf.wb
    have HRB := Lib.hid hf.rb
    subst hpn
    have hkk : ((pn : Int) != (pn : Int)) = false := by simp
    have HSO := Lib.hid (sorts13_any l jA pA jc pc pn wt v HL.out (by omega) hvl HPL.out.sort (fun y => by have := HVB.out y; omega) w5 S4.out.irow P1.out.row.1)
    clear HR hsol hst hvl hf
    obtain ⟨p0, p1, -, pl⟩ := P1.out.box
    go_wp2_with fail
    refine HSO.out.mono ?_
    rintro e w6 ⟨rfl, B6⟩
    have S6 := Lib.hid (S4.out.below B6)
    have P6 := Lib.hid (P1.out.below B6)
    clear p0 p1 pl j0 j1 jl B6 S4 P1 HSO hkk
    obtain ⟨p0, p1, -, pl⟩ := P6.out.box
    go_wp2_with fail
    clear p0 p1 pl
    go_loopw [8, 52] (fun mv iv wr => ∃ k : Nat, k ≤ pn ∧ iv = .int .i64 (k : Int) ∧ mv = .int .i64 (mx0 v k) ∧ Hid (∃ q, wr = w6.drewN q)) (fun _ iv _ => pn - (intOf iv).toNat)
    case atStart => exact ⟨0, by omega, rfl, rfl, Lib.hid ⟨0, rfl⟩⟩
    case round =>
      obtain ⟨k, hk, rfl, rfl, HW⟩ := hrel
      have S7 := Lib.hid (show JM w wr b jA jc l wt (5 + 5 * 16) by obtain ⟨q, e⟩ := HW.out; rw [e]; exact S6.out.drewN q)
      have P7 := Lib.hid (show PSt wr w.heap.size g1 st pA pn pc v by obtain ⟨q, e⟩ := HW.out; rw [e]; exact P6.out.below ⟨rfl, rfl, rfl, Nat.le_refl _, fun _ _ => rfl⟩)
      by_cases hlt : k < pn
      · obtain ⟨pad, rfl, _, cp⟩ := P7.out.row.1 k (by rw [HVL.out]; exact hlt)
        have hkl : k < l.length := by rw [← HL.out]; exact hlt
        obtain ⟨aA, rfl, CE⟩ := S7.out.irow.at_ k hkl
        obtain ⟨-, -, r2, -⟩ := CE.spelt
        replace r2 : wr.cell? ⟨(aA.add (k * 4)).block, (aA.add (k * 4)).off + 2, none⟩ = some (.int .i64 (rnd l k)) := r2
        have J := S7.out.box
        rw [← HL.out] at J
        obtain ⟨j0, j1, jl⟩ := J
        have hki : (k : Int) < (pn : Int) := by omega
        have hz : isZ (v.getD k 0) (rnd l k) wt = true := by
          obtain ⟨K, hK, hc⟩ := HPL.out.code k hkl
          obtain ⟨R, hR⟩ := Int.eq_ofNat_of_zero_le (HRB.out k hkl).1
          obtain ⟨V, hV⟩ := Int.eq_ofNat_of_zero_le HWN.out.1
          rw [hR, hV] at hc
          rw [hK, hR, hV, isZ_nat (by have := (HRB.out k hkl).2; omega) (by have := HWN.out.2; omega)]
          exact hc
        have HRI := Lib.hid (fun q : Nat => (by
          have := ris_any (v.getD k 0) (rnd l k) wt (wr.drewN q)
          rw [hz] at this
          exact this : Calls Try.prog 23 #[.int .i64 (v.getD k 0), .int .i64 (rnd l k), .int .i64 wt] (wr.drewN q) fun e w' => e = .returned (.bool true) ∧ ∃ n, w' = (wr.drewN q).drewN n))
        have HN := Lib.hid (show max2 (mx0 v k) (v.getD k 0) = mx0 v (k + 1) from rfl)
        clear CE hz
        generalize v.getD k 0 = vk0 at *
        generalize rnd l k = rr at *
        obtain ⟨m0, hm0⟩ : ∃ m, m = mx0 v k := ⟨_, rfl⟩
        rw [← hm0] at HN ⊢
        obtain ⟨m2, hm2⟩ : ∃ m, m = max2 m0 vk0 := ⟨_, rfl⟩
        have hmx : ∀ w ts t, (Builtin.max_ ts t #[.int .i64 m0, .int .i64 vk0]).run Try.prog w = .ok (.int .i64 m2) w := fun w ts t => by rw [run_max2, hm2]
        have HN2 := Lib.hid (show m2 = mx0 v (k + 1) by rw [hm2]; exact HN.out)
        clear hm0 hm2 HN
        go_wp2_with fail
        go_quiet ((go_at_call 23; exact Calls.quiet_of (HRI.out _)))
        go_wp2_with fail
        go_roundw
        case rel => exact ⟨k + 1, by omega, by go_num, by rw [HN2.out], Lib.hid (by obtain ⟨q, e⟩ := HW.out; exact ⟨q + nq, by rw [e, World.drewN_drewN]⟩)⟩
        case measure => simp [intOf]; omega
      · have hkp : k = pn := by omega
        subst hkp
        have hmx : st = (ln (mx0 v k).toNat : Int) := by have := HST.out; rwa [HVL.out] at this
        have hm0 := (mx0_le v k).1
        have hmb : mx0 v k < 4096 := by
          have : ∀ n, mx0 v n < 4096 := by
            intro n
            induction n with
            | zero => show (0 : Int) < 4096; omega
            | succ n ih =>
              have := HVB.out n
              show max2 (mx0 v n) (v.getD n 0) < 4096
              unfold max2; split <;> omega
          exact this k
        obtain ⟨mm, hmm⟩ := Int.eq_ofNat_of_zero_le hm0
        rw [hmm] at hmx hmb ⊢
        rw [Int.toNat_natCast] at hmx
        have HLO := Lib.hid (fun W => long_any mm W (by omega))
        obtain ⟨lm, hlm⟩ : ∃ x, x = ln mm := ⟨_, rfl⟩
        rw [← hlm] at hmx HLO
        obtain ⟨p0, p1, -, pl⟩ := P7.out.box
        rw [hmx] at p0
        have HPS := Lib.hid p0
        clear hmm hm0 hmb hlm hmx hlt
        go_upto_region 16 with fail
        clear p0 p1 pl
        obtain ⟨q0, e0⟩ : ∃ x, x = wr.drew := ⟨_, rfl⟩
        have F0 : q0.cell? ⟨g1, 0, none⟩ = some (.int .i64 (lm : Int)) := by rw [e0]; exact HPS.out
        have HB := Lib.hid (show Below w.heap.size w q0 by rw [e0]; exact bdn (n := 1) S7.out.bel)
        have HE0 := Lib.hid e0
        have HG := Lib.hid (show g1 < q0.heap.size by rw [e0]; exact P7.out.box.lt)
        clear e0
        refine AnyT.begin_at tlN (fun X => X.cell? ⟨g1, 0, none⟩ = some (.int .i64 (lm : Int))) (by kernel_rfl) HE0.out F0 ?_
        clear F0
        intro F0
-- TAKES P1
        refine AnyT.takeD (i := 0) (d := some 72) (v := .pointer (some ⟨g1, 0, none⟩)) rfl rfl (by kernel_rfl) (by kernel_rfl) (by kernel_rfl) (by kernel_rfl) (fun _ _ _ h => h) (Or.inl ⟨by rfl, fun wz _ => by go_simp⟩) F0 ?_
        simp only [Act.put, List.setIfInBounds_toArray, List.set_cons_zero, List.set_cons_succ]
        refine AnyT.takeD (i := 1) (d := some 73) (v := .int .i64 (lm : Int)) rfl rfl (by kernel_rfl) (by kernel_rfl) (by kernel_rfl) (by kernel_rfl) (fun _ _ _ h => h) (Or.inl ⟨by rfl, fun wz hz => by have z0 := hz; go_simp⟩) F0 ?_
        simp only [Act.put, List.setIfInBounds_toArray, List.set_cons_zero, List.set_cons_succ]
        refine AnyT.takeD (i := 2) (d := some 74) (v := .int .i64 (mm : Int)) rfl rfl (by kernel_rfl) (by kernel_rfl) (by kernel_rfl) (by kernel_rfl) (fun _ _ _ h => h) (Or.inl ⟨by rfl, fun wz _ => by go_simp⟩) F0 ?_
        simp only [Act.put, List.setIfInBounds_toArray, List.set_cons_zero, List.set_cons_succ]
        -- TAKEN P1
        refine AnyT.branch (rs := [3]) (by kernel_rfl) (by simp) ?_
        refine all_cons (?_) all_nil
        refine AnyT.enter (i := 3) (d := some 75) (f := 24) (args := #[.int .i64 (mm : Int)]) rfl rfl rfl (by go_simp) (HLO.out q0) ?_
        rintro e q1 ⟨rfl, hq1⟩
        subst hq1
        refine ⟨_, rfl, fun _ => F0, ?_⟩
        simp only [Act.put, List.setIfInBounds_toArray, List.set_cons_zero, List.set_cons_succ]
        have hll : ((lm : Int) == (lm : Int)) = true := by simp
-- TAKES P2
        refine AnyT.takeD (i := 4) (d := some 76) (v := .bool true) rfl rfl (by kernel_rfl) (by kernel_rfl) (by kernel_rfl) (by kernel_rfl) (fun _ _ _ h => h) (Or.inl ⟨by rfl, fun wz _ => by go_simp⟩) F0 ?_
        simp only [Act.put, List.setIfInBounds_toArray, List.set_cons_zero, List.set_cons_succ]
        refine AnyT.takeD (i := 5) (d := some 77) (v := .bool true) rfl rfl (by kernel_rfl) (by kernel_rfl) (by kernel_rfl) (by kernel_rfl) (fun _ _ _ h => h) (Or.inl ⟨by rfl, fun wz _ => by go_simp⟩) F0 ?_
        simp only [Act.put, List.setIfInBounds_toArray, List.set_cons_zero, List.set_cons_succ]
        -- TAKEN P2
        refine AnyT.branch (rs := [6]) (by kernel_rfl) (by simp) ?_
        refine all_cons (?_) all_nil
        refine AnyT.enterG (i := 6) (d := some 78) (f := 15) (args := #[]) rfl (by rfl) rfl (by go_simp) (sane13_any q0) ?_
        rintro e q1 ⟨rfl, hB1⟩
        have HB1 := Lib.hid (HB.out.trans (hB1.mono HB.out.size))
        have F1 : q1.cell? ⟨g1, 0, none⟩ = some (.int .i64 (lm : Int)) := by rw [hB1.cell (p := ⟨g1, 0, none⟩) HG.out]; exact F0
        refine ⟨_, rfl, (fun _ => F1), ?_⟩
        clear hB1 F0
        simp only [Act.put, List.setIfInBounds_toArray, List.set_cons_zero, List.set_cons_succ]
-- TAKES P3
        refine AnyT.takeD (i := 7) (d := some 79) (v := .bool true) rfl rfl (by kernel_rfl) (by kernel_rfl) (by kernel_rfl) (by kernel_rfl) (fun _ _ _ h => h) (Or.inl ⟨by rfl, fun wz _ => by go_simp⟩) F1 ?_
        simp only [Act.put, List.setIfInBounds_toArray, List.set_cons_zero, List.set_cons_succ]
        refine AnyT.takeD (i := 8) (d := some 2) (v := .bool true) rfl rfl (by kernel_rfl) (by kernel_rfl) (by kernel_rfl) (by kernel_rfl) (fun _ _ _ h => h) (Or.inl ⟨by rfl, fun wz _ => by go_simp⟩) F1 ?_
        simp only [Act.put, List.setIfInBounds_toArray, List.set_cons_zero, List.set_cons_succ]
        -- TAKEN P3
        refine AnyT.done_ (by kernel_rfl) ?_ _
        go_wp2_with fail
        go_ret
        exact ⟨rfl, HB1.out⟩
theorem sor_law (a : Option Addr) (len cap : Nat) (zs : List Int) (w : World) (h : IsRow .i64 w a len cap zs) :
    Calls Try.prog 6 #[.slice a len cap] w fun e w' => e = .returned (.bool true) ∧ Below w.heap.size w w' := by
  obtain ⟨l, rfl, h1, h2, h3⟩ := h.row
  exact sor_walk a cap l w h1 h2 h3
end Go.Proofs.Ytcplanafcnnodaa
