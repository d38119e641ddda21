/-
  Stage 13: the walk of LeastcodeWeights.
-/
import Derived.Test.YtcplanafcnnodaaYLawA
set_option linter.unusedSimpArgs false
set_option linter.unusedVariables false
namespace Go.Proofs.Ytcplanafcnnodaa
open Go.RowKit Go.Lib

def tl7 (i : Nat) : Bool := i == 7
set_option maxRecDepth 100000 in
set_option maxHeartbeats 3200000 in
theorem wei_walk (A : Option Addr) (c : Nat) (zs : List Int) (w : World) (hr : Row .i64 w w.heap.size A zs) (hm : zs.length ≤ maxLen) (hw : ∀ n ∈ zs, (Lit.int .i64 n).wf = true) :
    Calls Try.prog 11 #[.slice A zs.length c] w fun e w' => e = .returned (.bool true) ∧ Below w.heap.size w w' := by
  have K := Lib.hid (mk_row (c := c) (T := 65) hr hm hw)
  have B := Lib.hid ((Below.refl w.heap.size w).alloc (Nat.le_refl _) (.cells #[.slice A zs.length c, .int .i64 0] 65))
  clear hr hw
  go_enter Try.func11, Try.ntmps11
  go_wp2_with fail
  refine (new_any A zs.length c w).mono ?_
  rintro e w1 ⟨rfl, hw1⟩
  rw [← hw1] at K B
  clear hw1 hm
  go_wp2_with fail
  refine mjob_start w w1 14 (by omega) K.out B.out ?_
  intro jA jc l wt w2 hl hlt hS
  obtain ⟨b, hb⟩ : ∃ b, b = w2.heap.size := ⟨_, rfl⟩
  have S := Lib.hid (hS b hb)
  clear K B hS hlt
  go_upto_region 3 with fail
  rw [← hb]
  generalize w2.alloc (.cells #[.slice jA l.length jc, .int .i64 wt] 24) = w3 at *
  clear hb
  obtain ⟨L, hL⟩ : ∃ n, n = l.length := ⟨_, rfl⟩
  have HL := Lib.hid hL
  have HC := Lib.hid (fun (wt : Int) (W : World) (k : IRow W jA l) => least_any l jA jc L wt hL W k)
  have J := S.out.box
  rw [← hL] at J hl ⊢
  obtain ⟨j0, j1, jl⟩ := J
  clear hL
  go_wp2_with fail
  refine (HC.out wt w3 S.out.irow).mono ?_
  rintro e w4 ⟨st, pA, pn, pc, er, v, rfl, O, B4, hr⟩
  have HR := Lib.hid (hr.valid S.out.val)
  obtain ⟨g1, hg1⟩ : ∃ g, g = w4.heap.size := ⟨_, rfl⟩
  have P1 := Lib.hid (PSt.new (st := st) (m := w.heap.size) O (Nat.lt_trans S.out.lt S.out.box.lt) g1 hg1 (by rw [hg1]; exact Nat.lt_of_lt_of_le (Nat.lt_trans S.out.lt S.out.box.lt) B4.size))
  have BX := (Below.refl w4.heap.size w4).alloc (Nat.le_refl _) (.cells #[.int .i64 st, .slice pA pn pc] 29)
  have S4 := Lib.hid ((S.out.below B4).below BX)
  clear j0 j1 jl S O B4 hr BX
  go_upto_region 4 with fail
  rw [← hg1]
  generalize w4.alloc (.cells #[.int .i64 st, .slice pA pn pc] 29) = w5 at *
  clear hg1
  have J := S4.out.box
  rw [← HL.out] at J
  obtain ⟨j0, j1, jl⟩ := J
  obtain ⟨b2, hb2⟩ : ∃ b, b = w5.heap.size := ⟨_, rfl⟩
  have JN := Lib.hid (show JBox _ b2 jA L jc wt from JBox.new (w := w5) (A := jA) (n := L) (c := jc) (wt := wt) b2 hb2)
  have FN := Lib.hid (fun j => frozen_new w5 #[.slice jA L jc, .int .i64 wt] 24 b2 j hb2)
  have BX := (Below.refl w5.heap.size w5).alloc (Nat.le_refl _) (.cells #[.slice jA L jc, .int .i64 wt] 24)
  have S5 := Lib.hid (S4.out.below BX)
  have P5 := Lib.hid (P1.out.below BX)
  have HB2 := Lib.hid (show b < b2 ∧ g1 < b2 by rw [hb2]; exact ⟨S4.out.box.lt, P1.out.box.lt⟩)
  clear BX
  go_upto_region 5 with fail
  rw [← hb2]
  generalize w5.alloc (.cells #[.slice jA L jc, .int .i64 wt] 24) = w6 at *
  clear hb2 j0 j1 jl S4 P1
  have J := S5.out.box
  rw [← HL.out] at J
  obtain ⟨j0, j1, jl⟩ := J
  have HPS := Lib.hid (fun (X : World) (hX : Moves w.heap.size w6 X) => (hX.cell (p := ⟨b, 1, none⟩) jl (by have := S5.out.lt; show b ≠ _; omega)).trans j1)
  have hwt := S5.out.wt_
  clear j0 j1 jl
  obtain ⟨q0, e0⟩ : ∃ x, x = w6.drew := ⟨_, rfl⟩
  have V0 := Lib.hid (show Moves w.heap.size w6 q0 from by rw [e0]; exact (Moves.refl _ _).drewN (n := 1))
  have K0 := Lib.hid (show IsMk q0 w.heap.size (5 + 5 * 14) from by rw [e0]; exact S5.out.mkr.drewN (n := 1))
  have F0 := HPS.out q0 V0.out
  have HE0 := Lib.hid e0
  clear e0
  refine AnyT.begin_at tl7 (fun X => X.cell? ⟨b, 1, none⟩ = some (.int .i64 wt)) (by kernel_rfl) HE0.out F0 ?_
  clear F0
  intro F0
-- TAKES W5
  refine AnyT.takeD (i := 0) (d := some 21) (v := .pointer (some ⟨b, 1, none⟩)) rfl rfl (by kernel_rfl) (by kernel_rfl) (by kernel_rfl) (by kernel_rfl) (fun _ _ _ h => h) (Or.inl ⟨by rfl, fun wz _ => by go_simp⟩) F0 ?_
  simp only [Act.put, List.setIfInBounds_toArray, List.set_cons_zero, List.set_cons_succ]
  refine AnyT.takeD (i := 1) (d := some 22) (v := .int .i64 wt) rfl rfl (by kernel_rfl) (by kernel_rfl) (by kernel_rfl) (by kernel_rfl) (fun _ _ _ h => h) (Or.inl ⟨by rfl, fun wz hz => by have z0 := hz; go_simp⟩) F0 ?_
  simp only [Act.put, List.setIfInBounds_toArray, List.set_cons_zero, List.set_cons_succ]
  refine AnyT.takeD (i := 2) (d := some 23) (v := .pointer (some ⟨w.heap.size, 0, none⟩)) rfl rfl (by kernel_rfl) (by kernel_rfl) (by kernel_rfl) (by kernel_rfl) (fun _ _ _ h => h) (Or.inl ⟨by rfl, fun wz _ => by go_simp⟩) F0 ?_
  simp only [Act.put, List.setIfInBounds_toArray, List.set_cons_zero, List.set_cons_succ]
  -- TAKEN W5
  refine AnyT.branch (rs := [3]) (by kernel_rfl) (by simp) ?_
  refine all_cons (?_) all_nil
  refine AnyT.enter (i := 3) (d := some 24) (f := 35) (args := #[.pointer (some ⟨w.heap.size, 0, none⟩), .int .i64 4]) rfl rfl rfl (by go_simp) (next_any w.heap.size (5 + 5 * 14) 4 q0 K0.out (by omega) (by omega) (by omega)) ?_
  rintro e q1 ⟨x, rfl, x1, x2, k1, v1⟩
  have V1 := Lib.hid (V0.out.trans v1)
  have K1 := Lib.hid k1
  have F1 := HPS.out q1 V1.out
  refine ⟨_, rfl, fun _ => F1, ?_⟩
  clear F0 k1 v1
  obtain ⟨wt2, hwt2⟩ : ∃ t, t = min2 12 (wt + x) := ⟨_, rfl⟩
  have hmn : ∀ w ts t, (Builtin.min_ ts t #[.int .i64 12, .int .i64 (wt + x)]).run Try.prog w = .ok (.int .i64 wt2) w := fun w ts t => by rw [run_min2, hwt2]
  have hwb : wt ≤ wt2 ∧ wt2 ≤ 12 := by
    rw [hwt2]; unfold min2; split <;> omega
  have hwr : IntKind.i64.wrap (wt + x) = wt + x := IntWalk.i64_in _ (by omega)
  clear hwt2
  simp only [Act.put, List.setIfInBounds_toArray, List.set_cons_zero, List.set_cons_succ]
-- TAKES W6
  refine AnyT.takeD (i := 4) (d := some 25) (v := .int .i64 (wt + x)) rfl rfl (by kernel_rfl) (by kernel_rfl) (by kernel_rfl) (by kernel_rfl) (fun _ _ _ h => h) (Or.inl ⟨by rfl, fun wz _ => by go_simp⟩) F1 ?_
  simp only [Act.put, List.setIfInBounds_toArray, List.set_cons_zero, List.set_cons_succ]
  refine AnyT.takeD (i := 5) (d := some 26) (v := .int .i64 wt2) rfl rfl (by kernel_rfl) (by kernel_rfl) (by kernel_rfl) (by kernel_rfl) (fun _ _ _ h => h) (Or.inl ⟨by rfl, fun wz _ => by go_simp⟩) F1 ?_
  simp only [Act.put, List.setIfInBounds_toArray, List.set_cons_zero, List.set_cons_succ]
  refine AnyT.takeD (i := 6) (d := some 27) (v := .pointer (some ⟨b2, 1, none⟩)) rfl rfl (by kernel_rfl) (by kernel_rfl) (by kernel_rfl) (by kernel_rfl) (fun _ _ _ h => h) (Or.inl ⟨by rfl, fun wz _ => by go_simp⟩) F1 ?_
  simp only [Act.put, List.setIfInBounds_toArray, List.set_cons_zero, List.set_cons_succ]
  -- TAKEN W6
  refine AnyT.branch (rs := [7]) (by kernel_rfl) (by simp) ?_
  refine all_cons ?_ all_nil
  refine AnyT.step (i := 7) rfl (fun KK hK => ?_)
  have jn := JN.out.moves V1.out (by have := S5.out.lt; have := HB2.out.1; omega)
  have c1 := jn.c1
  have fz : q1.frozen? ⟨b2, 1, none⟩ = false := (V1.out.frozen (p := ⟨b2, 1, none⟩) JN.out.lt (by have := S5.out.lt; have := HB2.out.1; show b2 ≠ _; omega)).trans (FN.out 1)
  have S7 := Lib.hid ((S5.out.step V1.out K1.out).under ((Below.refl b2 q1).setCell (p := ⟨b2, 1, none⟩) (Nat.le_refl _) (.int .i64 wt2)) HB2.out.1)
  have P7 := Lib.hid ((P5.out.step V1.out).under ((Below.refl b2 q1).setCell (p := ⟨b2, 1, none⟩) (Nat.le_refl _) (.int .i64 wt2)) HB2.out.2)
  have J7 := Lib.hid (show JBox (q1.setCell ⟨b2, 1, none⟩ (.int .i64 wt2)) b2 jA L jc wt2 from ⟨by rw [World.cell?_setCell_other _ _ _ _ (by simp)]; exact jn.c0, World.cell?_setCell_same _ _ _ jn.c1, by rw [World.size_setCell]; exact jn.lt⟩)
  clear jn HPS V0 V1 K0 K1 JN FN S5 P5
  go_simp
  refine hK.out _ _ (fun h => absurd h (by decide)) ?_
  clear hK KK c1 fz F1 hmn hwr
  refine AnyT.done_ (by kernel_rfl) ?_ _
  generalize q1.setCell ⟨b2, 1, none⟩ (.int .i64 wt2) = w7 at *
  obtain ⟨j0, j1, jl⟩ := J7.out
  go_wp2_with fail
  refine (HC.out wt2 w7 S7.out.irow).mono ?_
  rintro e w8 ⟨st2, qA, qn, qc, er2, u, rfl, O, B8, hr2⟩
  have hv2 : validR l wt2 = 0 := valid_of (by rw [← HL.out]; omega) S7.out.run ⟨by have := S7.out.wt_; omega, hwb.2⟩
  have HR2 := Lib.hid (hr2.valid hv2)
  obtain ⟨g2, hg2⟩ : ∃ g, g = w8.heap.size := ⟨_, rfl⟩
  have hml : w.heap.size < w7.heap.size := Nat.lt_trans S7.out.lt S7.out.box.lt
  have Q1 := Lib.hid (PSt.new (st := st2) (m := w.heap.size) O hml g2 hg2 (by rw [hg2]; exact Nat.lt_of_lt_of_le hml B8.size))
  have BX := (Below.refl w8.heap.size w8).alloc (Nat.le_refl _) (.cells #[.int .i64 st2, .slice qA qn qc] 29)
  have S8 := Lib.hid ((S7.out.below B8).below BX)
  have P8 := Lib.hid ((P7.out.below B8).below BX)
  have HF2 := Lib.hid (formOk_of hv2)
  clear j0 j1 jl S7 O B8 hr2 BX P7 J7 hv2 hml
  go_upto_region 7 with fail
  rw [← hg2]
  generalize w8.alloc (.cells #[.int .i64 st2, .slice qA qn qc] 29) = w9 at *
  clear hg2
  have HSN := Lib.hid (sane13_any w9)
  rcases HR.out with ⟨rfl, rfl, rfl, _⟩ | ⟨rfl, bs, hsol, hst⟩
  · clear HR HR2
    go_wp2_with fail
    refine HSN.out.mono ?_
    rintro e wz ⟨rfl, BZ⟩
    have HZ := Lib.hid (S8.out.bel.trans (BZ.mono S8.out.bel.size))
    clear BZ HSN
    go_wp2_with fail
    go_ret
    exact ⟨rfl, HZ.out⟩
  · have hp := (hsol.plan S8.out.form).more (show wt.toNat ≤ wt2.toNat by omega)
    have HLE := Lib.hid (fun bs2 (h : Sol l wt2 bs2 u) (y : Nat) => (show u.getD y 0 ≤ v.getD y 0 from by
      by_cases hy : y < l.length
      · exact (h.least HF2.out hp y hy).2
      · rw [(h.rest y hy).1, (hsol.rest y hy).1]; exact Int.le_refl _))
    rcases HR2.out with ⟨_, _, _, hno⟩ | ⟨rfl, bs2, hsol2, hst2⟩
    · obtain ⟨b', v', h'⟩ := sol_ex HF2.out hp
      exact absurd h' (hno _ _)
    · have hqn : qn = L := by rw [Q1.out.len, hsol2.vlen, HL.out]
      have hpn : pn = L := by rw [P8.out.len, hsol.vlen, HL.out]
      subst hqn
      subst hpn
      have hle := HLE.out bs2 hsol2
      have hss := hst2.mono hst (by rw [hsol2.vlen, hsol.vlen]) hle
      have HLE2 := Lib.hid hle
      have HVL := Lib.hid (show v.length = pn ∧ u.length = pn from ⟨by rw [hsol.vlen, HL.out], by rw [hsol2.vlen, HL.out]⟩)
      have hne : ((pn : Int) != (pn : Int)) = false := by simp
      have hss' : ¬ st < st2 := by omega
      obtain ⟨p0, p1, pf, pl⟩ := P8.out.box
      obtain ⟨q0', q1', qf, ql⟩ := Q1.out.box
      clear hle hss hp HLE HR HR2 pf qf
      go_wp2_with fail
      clear p0 p1 q0' q1' pl ql
      go_loopw [61] (fun iv wr => ∃ k : Nat, k ≤ pn ∧ iv = .int .i64 (k : Int) ∧ Hid (Below w9.heap.size w9 wr)) (fun iv _ => pn - (intOf iv).toNat)
      case atStart => exact ⟨0, by omega, rfl, Lib.hid (Below.refl _ _)⟩
      case round =>
        clear hne hss'
        obtain ⟨k, hk, rfl, BR⟩ := hrel
        by_cases hlt : k < pn
        · obtain ⟨p0, p1, -, pl⟩ := (P8.out.below BR.out).box
          obtain ⟨q0', q1', -, ql⟩ := (Q1.out.below BR.out).box
          obtain ⟨pad, rfl, _, cp⟩ := (P8.out.below BR.out).row.1 k (by rw [HVL.out.1]; exact hlt)
          obtain ⟨qad, rfl, _, cq⟩ := (Q1.out.below BR.out).row.1 k (by rw [HVL.out.2]; exact hlt)
          have hle : ¬ v.getD k 0 < u.getD k 0 := by have := HLE2.out k; omega
          have hki : (k : Int) < (pn : Int) := by omega
          generalize v.getD k 0 = vk0 at *
          generalize u.getD k 0 = uk0 at *
          go_wp2_with fail
          go_quiet (fail)
          go_wp2_with fail
          go_roundw
          case rel => exact ⟨k + 1, by omega, by go_num, Lib.hid (bdn BR.out)⟩
          case measure => simp [intOf]; omega
        · have HS2 := Lib.hid (sane13_any wr)
          have HB2 := Lib.hid (S8.out.below BR.out).bel
          go_wp2_with fail
          refine HS2.out.mono ?_
          rintro e wz ⟨rfl, BZ⟩
          have HZ := Lib.hid (HB2.out.trans (BZ.mono HB2.out.size))
          clear BZ
          go_wp2_with fail
          go_ret
          exact ⟨rfl, HZ.out⟩
theorem wei_law (a : Option Addr) (len cap : Nat) (zs : List Int) (w : World) (h : IsRow .i64 w a len cap zs) :
    Calls Try.prog 11 #[.slice a len cap] w fun e w' => e = .returned (.bool true) ∧ Below w.heap.size w w' := by
  obtain ⟨l, rfl, h1, h2, h3⟩ := h.row
  exact wei_walk a cap l w h1 h2 h3
end Go.Proofs.Ytcplanafcnnodaa
