/-
  Stage 13: the walk of LeastcodeBelow.
-/
import Derived.Test.YtcplanafcnnodaaYBelP
import Derived.Test.YtcplanafcnnodaaYSrt
import Derived.Test.YtcplanafcnnodaaJRef2
import Derived.Test.YtcplanafcnnodaaYSane
import Derived.Test.YtcplanafcnnodaaKRef2
import Derived.Test.YtcplanafcnnodaaJRef3
import Derived.Test.YtcplanafcnnodaaMkPick
set_option linter.unusedSimpArgs false
set_option linter.unusedVariables false
namespace Go.Proofs.Ytcplanafcnnodaa
open Go.RowKit Go.Lib

theorem own_row {T : TypeId} {w : World} {base n c : Nat} {a : Addr} {zs : List Int} (h : Own .i64 T w base (.slice (some a) n c) zs) : Row .i64 w w.heap.size (some a) zs := by
  obtain ⟨A', c', e1, R', _⟩ := h.slice
  injection e1 with e1
  subst e1
  exact R'
/-- Four numbers of 0 to 3. -/
structure Four4 (w : World) (g : Nat) : Prop where
  cs : ∀ i, i < 4 → ∃ z : Int, w.cell? ⟨g, i, none⟩ = some (.int .i64 z) ∧ (0 ≤ z ∧ z ≤ 3)
  lt : g < w.heap.size
theorem Four4.new (w : World) : Four4 (w.alloc (.cells #[.int .i64 0, .int .i64 0, .int .i64 1, .int .i64 3] 3)) w.heap.size :=
  ⟨fun i hi => new_pick w 3 (fun z => 0 ≤ z ∧ z ≤ 3) [0, 0, 1, 3] (by decide) _ rfl i hi, by simp⟩
theorem Four4.below {w w' : World} {g : Nat} (h : Four4 w g) (k : Below w.heap.size w w') : Four4 w' g :=
  ⟨fun i hi => let ⟨z, hz, hp⟩ := h.cs i hi; ⟨z, (k.cell (p := ⟨g, i, none⟩) h.lt).trans hz, hp⟩, Nat.lt_of_lt_of_le h.lt k.size⟩
theorem run_lit4 {ρ : Operand → Value} {o : Oper} {x0 x1 x2 x3 : Operand} {a b c d : Int} (hop : o.op = .buildSlice 27 4 #[(0, x0), (1, x1), (2, x2), (3, x3)]) (h0 : ρ x0 = .int .i64 a) (h1 : ρ x1 = .int .i64 b) (h2 : ρ x2 = .int .i64 c) (h3 : ρ x3 = .int .i64 d) (w : World) :
    (execOp ρ o).run Try.prog w = .ok (.value (.slice (some ⟨w.heap.size, 0, none⟩) 4 4)) (w.alloc (.cells #[.int .i64 a, .int .i64 b, .int .i64 c, .int .i64 d] 3)) := by
  unfold execOp
  rw [hop]
  simp only [h0, h1, h2, h3]
  go_simp
theorem max_bd {l : List It} {zs : List Int} {y : Nat} {M : Int} (h : IsMaxP (fun x => x < l.length) (fun x => via l zs x y) M) (hb : ∀ x, 0 ≤ zs.getD x 0 ∧ zs.getD x 0 ≤ 4095) : 0 ≤ M ∧ M ≤ 4096 := by
  refine ⟨h.pos, ?_⟩
  rcases h.hit with e | ⟨x, hx, e⟩
  · omega
  · have e' : via l zs x y = M := e
    by_cases g : rel l x y = 0
    · rw [via_zero g] at e'; omega
    · rw [via_str g] at e'
      have h1 := hb x
      have h2 : str1 l x y ≤ 1 := by unfold str1; split <;> omega
      omega
theorem next_or {n r wt k e : Int} (hn : 0 ≤ n) (hr : 0 ≤ r ∧ r ≤ 12) (hw : 0 ≤ wt ∧ wt ≤ 12) (h : nextZ n r wt = (k, e)) : e = 0 ∨ e = 15 := by
  by_cases h0 : (nextZ n r wt).2 = 0
  · rw [h] at h0; exact Or.inl h0
  · have := next_err hn hr hw h0
    rw [h] at this
    injection this with _ h2
    exact Or.inr h2
set_option maxRecDepth 100000 in
set_option maxHeartbeats 3200000 in
theorem bel_walk (A : Option Addr) (c : Nat) (zs : List Int) (w : World) (hr : Row .i64 w w.heap.size A zs) (hm : zs.length ≤ maxLen) (hw : ∀ n ∈ zs, (Lit.int .i64 n).wf = true) :
    Calls Try.prog 8 #[.slice A zs.length c] w fun e w' => e = .returned (.bool true) ∧ Below w.heap.size w w' := by
  have K := Lib.hid (mk_row (c := c) (T := 65) hr hm hw)
  have B := Lib.hid ((Below.refl w.heap.size w).alloc (Nat.le_refl _) (.cells #[.slice A zs.length c, .int .i64 0] 65))
  clear hr hw
  go_enter Try.func8, Try.ntmps8
  go_wp2_with fail
  refine (new_any A zs.length c w).mono ?_
  rintro e w1 ⟨rfl, hw1⟩
  rw [← hw1] at K B
  clear hw1 hm
  go_wp2_with fail
  refine mjob_start w w1 12 (by omega) K.out B.out ?_
  intro jA jc l wt w2 hl hlt hS
  obtain ⟨b, hb⟩ : ∃ b, b = w2.heap.size := ⟨_, rfl⟩
  have S := Lib.hid (hS b hb)
  clear K B hS hlt
  go_upto_region 3 with fail
  rw [← hb]
  generalize w2.alloc (.cells #[.slice jA l.length jc, .int .i64 wt] 24) = w3 at *
  clear hb
  obtain ⟨L, hL⟩ : ∃ n, n = l.length := ⟨_, rfl⟩
  have HL := Lib.hid hL
  have HC := Lib.hid (fun (W : World) (k : IRow W jA l) => least_any l jA jc L wt hL W k)
  have J := S.out.box
  rw [← hL] at J hl ⊢
  obtain ⟨j0, j1, jl⟩ := J
  clear hL
  go_wp2_with fail
  refine (HC.out w3 S.out.irow).mono ?_
  rintro e w4 ⟨st, pA, pn, pc, er, v, rfl, O, B4, hr⟩
  have HR := Lib.hid (hr.valid S.out.val)
  obtain ⟨g1, hg1⟩ : ∃ g, g = w4.heap.size := ⟨_, rfl⟩
  have P1 := Lib.hid (PSt.new (st := st) (m := w.heap.size) O (Nat.lt_trans S.out.lt S.out.box.lt) g1 hg1 (by rw [hg1]; exact Nat.lt_of_lt_of_le (Nat.lt_trans S.out.lt S.out.box.lt) B4.size))
  have BX := (Below.refl w4.heap.size w4).alloc (Nat.le_refl _) (.cells #[.int .i64 st, .slice pA pn pc] 29)
  have S4 := Lib.hid ((S.out.below B4).below BX)
  clear j0 j1 jl S O B4 hr BX
  go_upto_region 4 with fail
  rw [← hg1]
  generalize w4.alloc (.cells #[.int .i64 st, .slice pA pn pc] 29) = w5 at *
  clear hg1
  have HSN := Lib.hid (fun W => sane13_any W)
  rcases HR.out with ⟨rfl, rfl, rfl, _⟩ | ⟨rfl, bs, hsol, _⟩
  · clear HR
    go_wp2_with fail
    refine (HSN.out w5).mono ?_
    rintro e wz ⟨rfl, BZ⟩
    have HZ := Lib.hid (S4.out.bel.trans (BZ.mono S4.out.bel.size))
    clear BZ HSN
    go_wp2_with fail
    go_ret
    exact ⟨rfl, HZ.out⟩
  · have hf := S4.out.form
    have HF := Lib.hid hf
    have HSOL := Lib.hid hsol
    have HVB := Lib.hid (fun y => (hsol.bound hf y).1)
    have hpn : pn = L := by rw [P1.out.len, hsol.vlen, HL.out]
    have hvl : v.length = L := by rw [hsol.vlen, HL.out]
    have HVL := Lib.hid hvl
    subst hpn
    have hkk : ((pn : Int) != (pn : Int)) = false := by simp
    clear HR hsol hvl hf
    have J := S4.out.box
    rw [← HL.out] at J
    obtain ⟨j0, j1, jl⟩ := J
    obtain ⟨p0, p1, -, pl⟩ := P1.out.box
    have hmk := make_ints w5 pn (by omega)
    have O0 := Lib.hid (Own.laid (k := .i64) (T := 3) w5 w5.heap.size (Nat.le_refl _) (List.replicate pn 0) pn (by simp) (by omega))
    have B6 := (Below.refl w5.heap.size w5).alloc (Nat.le_refl _) (.cells ((List.replicate pn 0).map (Value.int .i64)).toArray 3)
    have S6 := Lib.hid (S4.out.below B6)
    have P6 := Lib.hid (P1.out.below B6)
    have HI0 := Lib.hid (BInv.start wt HF.out.blk)
    rw [← HL.out] at HI0
    obtain ⟨g2, hg2⟩ : ∃ g, g = w5.heap.size := ⟨_, rfl⟩
    have hbg : b < g2 := by rw [hg2]; exact S4.out.box.lt
    have hgg : g1 < g2 := by rw [hg2]; exact P1.out.box.lt
    have hmg : w.heap.size < g2 := Nat.lt_trans S4.out.lt hbg
    have HNE := Lib.hid (show b < g2 ∧ g1 < g2 ∧ w.heap.size < g2 from ⟨hbg, hgg, hmg⟩)
    rw [← hg2] at O0 hmk
    generalize w5.alloc (.cells ((List.replicate pn 0).map (Value.int .i64)).toArray 3) = w6 at *
    generalize List.replicate pn (0 : Int) = z0 at *
    clear hg2 hbg hgg hmg B6 S4 P1
    go_wp2_with fail
    clear p0 p1 pl j0 j1 jl hkk hmk
    go_loopw [8] (fun iv wr => ∃ (bb M : Nat) (zs : List Int), bb ≤ 32 ∧ iv = .int .i64 (bb : Int) ∧ M ≤ 1000 + 1000 * bb ∧ Hid (JM w wr b jA jc l wt M) ∧ Hid (PSt wr w.heap.size g1 st pA pn pc v) ∧ Hid (Own .i64 3 wr g2 (.slice (some ⟨g2, 0, none⟩) pn pn) zs) ∧ Hid (BInv l wt bb 0 zs)) (fun iv _ => 32 - (intOf iv).toNat)
    case atStart => exact ⟨0, 5 + 5 * 12, z0, by omega, rfl, by omega, S6, P6, O0, HI0⟩
    case round =>
      clear O0 HI0 S6 P6
      obtain ⟨bb, MM, zs1, hbb, rfl, hMM, S7, P7, O7, I7⟩ := hrel
      by_cases hlt : bb < 32
      · have hb32 : (bb : Int) < 32 := by omega
        have hbd : decide ((bb : Int) < 32) = true := decide_eq_true hb32
        go_wp2_with fail
        go_loopw [46] (fun iv wi => ∃ (y M : Nat) (zi : List Int), y ≤ pn ∧ iv = .int .i64 (y : Int) ∧ M ≤ 1000 + 1000 * bb + y ∧ Hid (JM w wi b jA jc l wt M) ∧ Hid (PSt wi w.heap.size g1 st pA pn pc v) ∧ Hid (Own .i64 3 wi g2 (.slice (some ⟨g2, 0, none⟩) pn pn) zi) ∧ Hid (BInv l wt bb y zi)) (fun iv _ => pn - (intOf iv).toNat)
        case atStart => exact ⟨0, MM, zs1, by omega, rfl, by omega, S7, P7, O7, I7⟩
        case round =>
          clear S7 P7 O7 I7 hMM
          obtain ⟨y, MM, zi, hy, rfl, hMM, S7, P7, O7, I7⟩ := hrel
          by_cases hly : y < pn
          · have hyl : y < l.length := by rw [← HL.out]; exact hly
            obtain ⟨aA, rfl, CE⟩ := S7.out.irow.at_ y hyl
            obtain ⟨-, r1, r2, -⟩ := CE.spelt
            replace r2 : wr.cell? ⟨(aA.add (y * 4)).block, (aA.add (y * 4)).off + 2, none⟩ = some (.int .i64 (rnd l y)) := r2
            replace r1 : wr.cell? ⟨(aA.add (y * 4)).block, (aA.add (y * 4)).off + 1, none⟩ = some (.int .i64 (blk l y)) := r1
            have J := S7.out.box
            rw [← HL.out] at J
            obtain ⟨j0, j1, jl⟩ := J
            have hyi : (y : Int) < (pn : Int) := by omega
            have HYL := Lib.hid hyl
            have hzl : zi.length = pn := by rw [I7.out.len, HL.out]
            have HRS := Lib.hid hzl
            clear CE hyl hzl
            by_cases e : blk l y = (bb : Int)
            · have HEB := Lib.hid e
              rw [e] at r1
              have hbe : ((bb : Int) != (bb : Int)) = false := by simp
              have ltr := lt_of_cell r2
              have HPS := Lib.hid (fun (X : World) (N : Nat) (hX : JM w X b (some aA) jc l wt N) => (show X.cell? ⟨b, 0, none⟩ = some (.slice (some aA) pn jc) ∧ X.cell? ⟨b, 1, none⟩ = some (.int .i64 wt) ∧ X.cell? ⟨(aA.add (y * 4)).block, (aA.add (y * 4)).off + 2, none⟩ = some (.int .i64 (rnd l y)) from by
                obtain ⟨aB, e', CE⟩ := hX.irow.at_ y HYL.out
                obtain rfl : aA = aB := by injection e'
                obtain ⟨-, -, r2, -⟩ := CE.spelt
                have J := hX.box
                rw [← HL.out] at J
                exact ⟨J.c0, J.c1, r2⟩))
              obtain ⟨rr, hrr⟩ : ∃ z, z = rnd l y := ⟨_, rfl⟩
              have HRR := Lib.hid hrr
              rw [← hrr] at r2 HPS
              clear e ltr hrr
              have HBASE := Lib.hid (fun (W : World) (N : Nat) (h : JM w W b (some aA) jc l wt N) (o : Own .i64 3 W g2 (.slice (some ⟨g2, 0, none⟩) pn pn) zi) => base_any l (some aA) (some ⟨g2, 0, none⟩) jc pn wt zi y HYL.out W h.irow (own_row o) (by rw [HRS.out, HL.out]) (fun k _ => by have := I7.out.bd k; omega))
              rw [← HL.out] at HBASE
              go_upto_region 16 with fail
              clear r1 r2 j0 j1 jl hbe hb32 hbd
              obtain ⟨q0, e0⟩ : ∃ x, x = wr.drew := ⟨_, rfl⟩
              have K0 := show Below wr.heap.size wr q0 from by rw [e0]; exact (Below.refl _ _).drew
              have SJ0 := Lib.hid (S7.out.below K0)
              have PJ0 := Lib.hid (P7.out.below K0)
              have OW0 := Lib.hid (O7.out.below K0)
              have F0 := HPS.out q0 _ SJ0.out
              have HE0 := Lib.hid e0
              clear e0 K0 S7 P7 O7
              refine AnyT.begin_at tlN (fun X => X.cell? ⟨b, 0, none⟩ = some (.slice (some aA) pn jc) ∧ X.cell? ⟨b, 1, none⟩ = some (.int .i64 wt) ∧ X.cell? ⟨(aA.add (y * 4)).block, (aA.add (y * 4)).off + 2, none⟩ = some (.int .i64 rr)) (by kernel_rfl) HE0.out F0 ?_
              clear F0 HE0
              intro F0
-- TAKES L1
              refine AnyT.takeD (i := 0) (d := some 58) (v := jv (some aA) pn jc wt) rfl rfl (by kernel_rfl) (by kernel_rfl) (by kernel_rfl) (by kernel_rfl) (fun _ _ _ h => h) (Or.inl ⟨by rfl, fun wz hz => by obtain ⟨z0, z1, z2⟩ := hz; go_simp⟩) F0 ?_
              simp only [Act.put, List.setIfInBounds_toArray, List.set_cons_zero, List.set_cons_succ]
              refine AnyT.takeD (i := 1) (d := some 59) (v := .slice (some ⟨g2, 0, none⟩) pn pn) rfl rfl (by kernel_rfl) (by kernel_rfl) (by kernel_rfl) (by kernel_rfl) (fun _ _ _ h => h) (Or.inl ⟨by rfl, fun wz _ => by go_simp⟩) F0 ?_
              simp only [Act.put, List.setIfInBounds_toArray, List.set_cons_zero, List.set_cons_succ]
              refine AnyT.takeD (i := 2) (d := some 60) (v := .int .i64 (y : Int)) rfl rfl (by kernel_rfl) (by kernel_rfl) (by kernel_rfl) (by kernel_rfl) (fun _ _ _ h => h) (Or.inl ⟨by rfl, fun wz _ => by go_simp⟩) F0 ?_
              simp only [Act.put, List.setIfInBounds_toArray, List.set_cons_zero, List.set_cons_succ]
              refine AnyT.takeD (i := 4) (d := some 62) (v := .pointer (some ⟨w.heap.size, 0, none⟩)) rfl rfl (by kernel_rfl) (by kernel_rfl) (by kernel_rfl) (by kernel_rfl) (fun _ _ _ h => h) (Or.inl ⟨by rfl, fun wz _ => by go_simp⟩) F0 ?_
              simp only [Act.put, List.setIfInBounds_toArray, List.set_cons_zero, List.set_cons_succ]
              refine AnyT.takeD (i := 8) (d := some 66) (v := .pointer (some ⟨b, 0, none⟩)) rfl rfl (by kernel_rfl) (by kernel_rfl) (by kernel_rfl) (by kernel_rfl) (fun _ _ _ h => h) (Or.inl ⟨by rfl, fun wz _ => by go_simp⟩) F0 ?_
              simp only [Act.put, List.setIfInBounds_toArray, List.set_cons_zero, List.set_cons_succ]
              refine AnyT.takeD (i := 9) (d := some 67) (v := .slice (some aA) pn jc) rfl rfl (by kernel_rfl) (by kernel_rfl) (by kernel_rfl) (by kernel_rfl) (fun _ _ _ h => h) (Or.inl ⟨by rfl, fun wz hz => by obtain ⟨z0, z1, z2⟩ := hz; go_simp⟩) F0 ?_
              simp only [Act.put, List.setIfInBounds_toArray, List.set_cons_zero, List.set_cons_succ]
              refine AnyT.takeD (i := 10) (d := some 68) (v := .int .i64 (y : Int)) rfl rfl (by kernel_rfl) (by kernel_rfl) (by kernel_rfl) (by kernel_rfl) (fun _ _ _ h => h) (Or.inl ⟨by rfl, fun wz _ => by go_simp⟩) F0 ?_
              simp only [Act.put, List.setIfInBounds_toArray, List.set_cons_zero, List.set_cons_succ]
              refine AnyT.takeD (i := 11) (d := some 69) (v := .pointer (some (aA.add (y * 4)))) rfl rfl (by kernel_rfl) (by kernel_rfl) (by kernel_rfl) (by kernel_rfl) (fun _ _ _ h => h) (Or.inl ⟨by rfl, fun wz _ => by go_simp⟩) F0 ?_
              simp only [Act.put, List.setIfInBounds_toArray, List.set_cons_zero, List.set_cons_succ]
              refine AnyT.takeD (i := 12) (d := some 70) (v := .pointer (some ⟨(aA.add (y * 4)).block, (aA.add (y * 4)).off + 2, none⟩)) rfl rfl (by kernel_rfl) (by kernel_rfl) (by kernel_rfl) (by kernel_rfl) (fun _ _ _ h => h) (Or.inl ⟨by rfl, fun wz _ => by go_simp⟩) F0 ?_
              simp only [Act.put, List.setIfInBounds_toArray, List.set_cons_zero, List.set_cons_succ]
              refine AnyT.takeD (i := 13) (d := some 71) (v := .int .i64 rr) rfl rfl (by kernel_rfl) (by kernel_rfl) (by kernel_rfl) (by kernel_rfl) (fun _ _ _ h => h) (Or.inl ⟨by rfl, fun wz hz => by obtain ⟨z0, z1, z2⟩ := hz; go_simp⟩) F0 ?_
              simp only [Act.put, List.setIfInBounds_toArray, List.set_cons_zero, List.set_cons_succ]
              refine AnyT.takeD (i := 14) (d := some 72) (v := .pointer (some ⟨b, 1, none⟩)) rfl rfl (by kernel_rfl) (by kernel_rfl) (by kernel_rfl) (by kernel_rfl) (fun _ _ _ h => h) (Or.inl ⟨by rfl, fun wz _ => by go_simp⟩) F0 ?_
              simp only [Act.put, List.setIfInBounds_toArray, List.set_cons_zero, List.set_cons_succ]
              refine AnyT.takeD (i := 15) (d := some 73) (v := .int .i64 wt) rfl rfl (by kernel_rfl) (by kernel_rfl) (by kernel_rfl) (by kernel_rfl) (fun _ _ _ h => h) (Or.inl ⟨by rfl, fun wz hz => by obtain ⟨z0, z1, z2⟩ := hz; go_simp⟩) F0 ?_
              simp only [Act.put, List.setIfInBounds_toArray, List.set_cons_zero, List.set_cons_succ]
              -- TAKEN L1
              refine AnyT.branch (rs := [3, 5]) (by kernel_rfl) (by simp) ?_
              refine all_cons (?_) (all_cons (?_) all_nil)
              · refine AnyT.enter (i := 3) (d := some 61) (f := 30) (args := #[jv (some aA) pn jc wt, .slice (some ⟨g2, 0, none⟩) pn pn, .int .i64 (y : Int)]) rfl rfl rfl (by go_simp) (HBASE.out q0 _ SJ0.out OW0.out) ?_
                rintro e q1 ⟨M, rfl, hM, B1⟩
                have hMb := max_bd hM I7.out.bd
                have HM := Lib.hid hM
                have SJ1 := Lib.hid (SJ0.out.below B1)
                have PJ1 := Lib.hid (PJ0.out.below B1)
                have OW1 := Lib.hid (OW0.out.below B1)
                skip
                have F1 := HPS.out q1 _ SJ1.out
                refine ⟨_, rfl, fun _ => F1, ?_⟩
                clear F0 hM B1 SJ0 PJ0 OW0 HBASE
                simp only [Act.put, List.setIfInBounds_toArray, List.set_cons_zero, List.set_cons_succ]
                refine AnyT.branch (rs := [5]) (by kernel_rfl) (by simp) ?_
                refine all_cons (?_) all_nil
                have HGB := Lib.hid (show q1.heap.size ≠ w.heap.size by have := SJ1.out.mkr.lt; omega)
                have BB := (Below.refl q1.heap.size q1).alloc (Nat.le_refl _) (.cells #[.int .i64 0, .int .i64 0, .int .i64 1, .int .i64 3] 3)
                have SJ2 := Lib.hid (SJ1.out.below BB)
                have PJ2 := Lib.hid (PJ1.out.below BB)
                have OW2 := Lib.hid (OW1.out.below BB)
                have FR2 := Lib.hid (Four4.new q1)
                have F2 := HPS.out _ _ SJ2.out
                refine AnyT.yield (i := 5) (d := some 63) (v := .slice (some ⟨q1.heap.size, 0, none⟩) 4 4) rfl rfl rfl (run_lit4 rfl rfl rfl rfl rfl q1) (fun _ => F2) ?_
                clear F1 BB SJ1 PJ1 OW1
                generalize q1.alloc (.cells #[.int .i64 0, .int .i64 0, .int .i64 1, .int .i64 3] 3) = q2 at *
                generalize q1.heap.size = gb at *
                simp only [Act.put, List.setIfInBounds_toArray, List.set_cons_zero, List.set_cons_succ]
                refine AnyT.branch (rs := [6]) (by kernel_rfl) (by simp) ?_
                refine all_cons (?_) all_nil
                refine AnyT.enter (i := 6) (d := some 64) (f := 31) (args := #[.pointer (some ⟨w.heap.size, 0, none⟩), .slice (some ⟨gb, 0, none⟩) 4 4]) rfl rfl rfl (by go_simp) (pick_any w.heap.size MM (fun z => 0 ≤ z ∧ z ≤ 3) gb 4 4 q2 SJ2.out.mkr (by omega) (by omega) (by omega) (HGB.out) FR2.out.lt FR2.out.cs) ?_
                rintro e q3 ⟨d, rfl, ⟨d0, d1⟩, k3, m3⟩
                have SJ3 := Lib.hid (SJ2.out.step m3 k3)
                have PJ3 := Lib.hid (PJ2.out.step m3)
                have OW3 := Lib.hid (OW2.out.moves m3 HNE.out.2.2)
                have F3 := HPS.out q3 _ SJ3.out
                refine ⟨_, rfl, fun _ => F3, ?_⟩
                clear F2 k3 m3 SJ2 PJ2 OW2 FR2 HGB
                simp only [Act.put, List.setIfInBounds_toArray, List.set_cons_zero, List.set_cons_succ]
                have hwr : IntKind.i64.wrap (M + d) = M + d := IntWalk.i64_in _ (by omega)
-- TAKES A5
                refine AnyT.takeD (i := 7) (d := some 65) (v := .int .i64 (M + d)) rfl rfl (by kernel_rfl) (by kernel_rfl) (by kernel_rfl) (by kernel_rfl) (fun _ _ _ h => h) (Or.inl ⟨by rfl, fun wz _ => by go_simp⟩) F3 ?_
                simp only [Act.put, List.setIfInBounds_toArray, List.set_cons_zero, List.set_cons_succ]
                -- TAKEN A5
                clear hwr
                have hnx := rnext_any (M + d) rr wt q3 (by omega)
                obtain ⟨⟨K, er⟩, hz⟩ : ∃ t, t = nextZ (M + d) rr wt := ⟨_, rfl⟩
                rw [← hz] at hnx
                have HZ := Lib.hid hz
                have HNX := Lib.hid hnx
                clear hz hnx
                refine AnyT.branch (rs := [16]) (by kernel_rfl) (by simp) ?_
                refine all_cons (?_) all_nil
                refine AnyT.enter (i := 16) (d := some 74) (f := 29) (args := #[.int .i64 (M + d), .int .i64 rr, .int .i64 wt]) rfl rfl rfl (by go_simp) HNX.out ?_
                rintro e q4 ⟨rfl, hq4⟩
                have BD4 : Below q3.heap.size q3 q4 := by obtain ⟨n, rfl⟩ := hq4; exact bdn (Below.refl _ _)
                have SJ4 := Lib.hid (SJ3.out.below BD4)
                have PJ4 := Lib.hid (PJ3.out.below BD4)
                have OW4 := Lib.hid (OW3.out.below BD4)
                have F4 := HPS.out q4 _ SJ4.out
                refine ⟨_, rfl, fun _ => F4, ?_⟩
                clear F3 BD4 hq4 SJ3 PJ3 OW3 HNX
                simp only [Act.put, List.setIfInBounds_toArray, List.set_cons_zero, List.set_cons_succ]
-- TAKES A6
                refine AnyT.takeD (i := 17) (d := some 57) (v := R2 (K, er)) rfl rfl (by kernel_rfl) (by kernel_rfl) (by kernel_rfl) (by kernel_rfl) (fun _ _ _ h => h) (Or.inl ⟨by rfl, fun wz _ => by go_simp⟩) F4 ?_
                simp only [Act.put, List.setIfInBounds_toArray, List.set_cons_zero, List.set_cons_succ]
                refine AnyT.takeD (i := 18) (d := some 75) (v := .int .i64 K) rfl rfl (by kernel_rfl) (by kernel_rfl) (by kernel_rfl) (by kernel_rfl) (fun _ _ _ h => h) (Or.inl ⟨by rfl, fun wz _ => by go_simp⟩) F4 ?_
                simp only [Act.put, List.setIfInBounds_toArray, List.set_cons_zero, List.set_cons_succ]
                refine AnyT.takeD (i := 19) (d := some 76) (v := .int .i64 er) rfl rfl (by kernel_rfl) (by kernel_rfl) (by kernel_rfl) (by kernel_rfl) (fun _ _ _ h => h) (Or.inl ⟨by rfl, fun wz _ => by go_simp⟩) F4 ?_
                simp only [Act.put, List.setIfInBounds_toArray, List.set_cons_zero, List.set_cons_succ]
                refine AnyT.takeD (i := 20) (d := some 10) (v := .int .i64 K) rfl rfl (by kernel_rfl) (by kernel_rfl) (by kernel_rfl) (by kernel_rfl) (fun _ _ _ h => h) (Or.inl ⟨by rfl, fun wz _ => by go_simp⟩) F4 ?_
                simp only [Act.put, List.setIfInBounds_toArray, List.set_cons_zero, List.set_cons_succ]
                refine AnyT.takeD (i := 21) (d := some 11) (v := .int .i64 er) rfl rfl (by kernel_rfl) (by kernel_rfl) (by kernel_rfl) (by kernel_rfl) (fun _ _ _ h => h) (Or.inl ⟨by rfl, fun wz _ => by go_simp⟩) F4 ?_
                simp only [Act.put, List.setIfInBounds_toArray, List.set_cons_zero, List.set_cons_succ]
                -- TAKEN A6
                refine AnyT.done_ (by kernel_rfl) ?_ _
                clear F4 HPS
                have hcs : er = 0 ∨ er = 15 := next_or (show 0 ≤ M + d by omega) (by rw [HRR.out]; exact HF.out.rb y HYL.out) HF.out.wb HZ.out.symm
                rcases hcs with rfl | rfl
                · have I8 := Lib.hid (I7.out.set HF.out HYL.out HEB.out HM.out d0 (by rw [← HRR.out]; exact HZ.out.symm))
                  have dc := OW4.out.cell HRS.out.symm y (by rw [HRS.out]; exact hly)
                  have fz := OW4.out.frozen HRS.out.symm y
                  have B8 := (Below.refl g2 q4).setCell (p := ⟨g2, y, none⟩) (Nat.le_refl g2) (.int .i64 K)
                  have O8 := Lib.hid (OW4.out.store HRS.out.symm y K)
                  have S8 := Lib.hid (SJ4.out.under B8 HNE.out.1)
                  have P8 := Lib.hid (PJ4.out.under B8 HNE.out.2.1)
                  clear B8 SJ4 PJ4 OW4 HZ HM
                  go_wp2_with fail
                  go_roundw
                  case rel => exact ⟨y + 1, MM + 1, zi.set y K, by omega, by go_num, by omega, S8, P8, O8, I8⟩
                  case measure => simp [intOf]; omega
                · clear HZ HM PJ4 OW4
                  go_wp2_with fail
                  refine (sane13_any _).mono ?_
                  rintro e wz ⟨rfl, BZ⟩
                  have HZ := Lib.hid (SJ4.out.bel.trans (BZ.mono SJ4.out.bel.size))
                  clear BZ
                  go_wp2_with fail
                  go_ret
                  exact ⟨rfl, HZ.out⟩
              · have HGB := Lib.hid (show q0.heap.size ≠ w.heap.size by have := SJ0.out.mkr.lt; omega)
                have BB := (Below.refl q0.heap.size q0).alloc (Nat.le_refl _) (.cells #[.int .i64 0, .int .i64 0, .int .i64 1, .int .i64 3] 3)
                have SJ1 := Lib.hid (SJ0.out.below BB)
                have PJ1 := Lib.hid (PJ0.out.below BB)
                have OW1 := Lib.hid (OW0.out.below BB)
                have FR1 := Lib.hid (Four4.new q0)
                have F1 := HPS.out _ _ SJ1.out
                refine AnyT.yield (i := 5) (d := some 63) (v := .slice (some ⟨q0.heap.size, 0, none⟩) 4 4) rfl rfl rfl (run_lit4 rfl rfl rfl rfl rfl q0) (fun _ => F1) ?_
                clear F0 BB SJ0 PJ0 OW0
                generalize q0.alloc (.cells #[.int .i64 0, .int .i64 0, .int .i64 1, .int .i64 3] 3) = q1 at *
                generalize q0.heap.size = gb at *
                simp only [Act.put, List.setIfInBounds_toArray, List.set_cons_zero, List.set_cons_succ]
                refine AnyT.branch (rs := [3]) (by kernel_rfl) (by simp) ?_
                refine all_cons (?_) all_nil
                refine AnyT.enter (i := 3) (d := some 61) (f := 30) (args := #[jv (some aA) pn jc wt, .slice (some ⟨g2, 0, none⟩) pn pn, .int .i64 (y : Int)]) rfl rfl rfl (by go_simp) (HBASE.out q1 _ SJ1.out OW1.out) ?_
                rintro e q2 ⟨M, rfl, hM, B2⟩
                have hMb := max_bd hM I7.out.bd
                have HM := Lib.hid hM
                have SJ2 := Lib.hid (SJ1.out.below B2)
                have PJ2 := Lib.hid (PJ1.out.below B2)
                have OW2 := Lib.hid (OW1.out.below B2)
                have FR2 := Lib.hid (FR1.out.below B2)
                have F2 := HPS.out q2 _ SJ2.out
                refine ⟨_, rfl, fun _ => F2, ?_⟩
                clear F1 hM B2 SJ1 PJ1 OW1 HBASE
                simp only [Act.put, List.setIfInBounds_toArray, List.set_cons_zero, List.set_cons_succ]
                refine AnyT.branch (rs := [6]) (by kernel_rfl) (by simp) ?_
                refine all_cons (?_) all_nil
                refine AnyT.enter (i := 6) (d := some 64) (f := 31) (args := #[.pointer (some ⟨w.heap.size, 0, none⟩), .slice (some ⟨gb, 0, none⟩) 4 4]) rfl rfl rfl (by go_simp) (pick_any w.heap.size MM (fun z => 0 ≤ z ∧ z ≤ 3) gb 4 4 q2 SJ2.out.mkr (by omega) (by omega) (by omega) (HGB.out) FR2.out.lt FR2.out.cs) ?_
                rintro e q3 ⟨d, rfl, ⟨d0, d1⟩, k3, m3⟩
                have SJ3 := Lib.hid (SJ2.out.step m3 k3)
                have PJ3 := Lib.hid (PJ2.out.step m3)
                have OW3 := Lib.hid (OW2.out.moves m3 HNE.out.2.2)
                have F3 := HPS.out q3 _ SJ3.out
                refine ⟨_, rfl, fun _ => F3, ?_⟩
                clear F2 k3 m3 SJ2 PJ2 OW2 FR2 HGB
                simp only [Act.put, List.setIfInBounds_toArray, List.set_cons_zero, List.set_cons_succ]
                have hwr : IntKind.i64.wrap (M + d) = M + d := IntWalk.i64_in _ (by omega)
-- TAKES B5
                refine AnyT.takeD (i := 7) (d := some 65) (v := .int .i64 (M + d)) rfl rfl (by kernel_rfl) (by kernel_rfl) (by kernel_rfl) (by kernel_rfl) (fun _ _ _ h => h) (Or.inl ⟨by rfl, fun wz _ => by go_simp⟩) F3 ?_
                simp only [Act.put, List.setIfInBounds_toArray, List.set_cons_zero, List.set_cons_succ]
                -- TAKEN B5
                clear hwr
                have hnx := rnext_any (M + d) rr wt q3 (by omega)
                obtain ⟨⟨K, er⟩, hz⟩ : ∃ t, t = nextZ (M + d) rr wt := ⟨_, rfl⟩
                rw [← hz] at hnx
                have HZ := Lib.hid hz
                have HNX := Lib.hid hnx
                clear hz hnx
                refine AnyT.branch (rs := [16]) (by kernel_rfl) (by simp) ?_
                refine all_cons (?_) all_nil
                refine AnyT.enter (i := 16) (d := some 74) (f := 29) (args := #[.int .i64 (M + d), .int .i64 rr, .int .i64 wt]) rfl rfl rfl (by go_simp) HNX.out ?_
                rintro e q4 ⟨rfl, hq4⟩
                have BD4 : Below q3.heap.size q3 q4 := by obtain ⟨n, rfl⟩ := hq4; exact bdn (Below.refl _ _)
                have SJ4 := Lib.hid (SJ3.out.below BD4)
                have PJ4 := Lib.hid (PJ3.out.below BD4)
                have OW4 := Lib.hid (OW3.out.below BD4)
                have F4 := HPS.out q4 _ SJ4.out
                refine ⟨_, rfl, fun _ => F4, ?_⟩
                clear F3 BD4 hq4 SJ3 PJ3 OW3 HNX
                simp only [Act.put, List.setIfInBounds_toArray, List.set_cons_zero, List.set_cons_succ]
-- TAKES B6
                refine AnyT.takeD (i := 17) (d := some 57) (v := R2 (K, er)) rfl rfl (by kernel_rfl) (by kernel_rfl) (by kernel_rfl) (by kernel_rfl) (fun _ _ _ h => h) (Or.inl ⟨by rfl, fun wz _ => by go_simp⟩) F4 ?_
                simp only [Act.put, List.setIfInBounds_toArray, List.set_cons_zero, List.set_cons_succ]
                refine AnyT.takeD (i := 18) (d := some 75) (v := .int .i64 K) rfl rfl (by kernel_rfl) (by kernel_rfl) (by kernel_rfl) (by kernel_rfl) (fun _ _ _ h => h) (Or.inl ⟨by rfl, fun wz _ => by go_simp⟩) F4 ?_
                simp only [Act.put, List.setIfInBounds_toArray, List.set_cons_zero, List.set_cons_succ]
                refine AnyT.takeD (i := 19) (d := some 76) (v := .int .i64 er) rfl rfl (by kernel_rfl) (by kernel_rfl) (by kernel_rfl) (by kernel_rfl) (fun _ _ _ h => h) (Or.inl ⟨by rfl, fun wz _ => by go_simp⟩) F4 ?_
                simp only [Act.put, List.setIfInBounds_toArray, List.set_cons_zero, List.set_cons_succ]
                refine AnyT.takeD (i := 20) (d := some 10) (v := .int .i64 K) rfl rfl (by kernel_rfl) (by kernel_rfl) (by kernel_rfl) (by kernel_rfl) (fun _ _ _ h => h) (Or.inl ⟨by rfl, fun wz _ => by go_simp⟩) F4 ?_
                simp only [Act.put, List.setIfInBounds_toArray, List.set_cons_zero, List.set_cons_succ]
                refine AnyT.takeD (i := 21) (d := some 11) (v := .int .i64 er) rfl rfl (by kernel_rfl) (by kernel_rfl) (by kernel_rfl) (by kernel_rfl) (fun _ _ _ h => h) (Or.inl ⟨by rfl, fun wz _ => by go_simp⟩) F4 ?_
                simp only [Act.put, List.setIfInBounds_toArray, List.set_cons_zero, List.set_cons_succ]
                -- TAKEN B6
                refine AnyT.done_ (by kernel_rfl) ?_ _
                clear F4 HPS
                have hcs : er = 0 ∨ er = 15 := next_or (show 0 ≤ M + d by omega) (by rw [HRR.out]; exact HF.out.rb y HYL.out) HF.out.wb HZ.out.symm
                rcases hcs with rfl | rfl
                · have I8 := Lib.hid (I7.out.set HF.out HYL.out HEB.out HM.out d0 (by rw [← HRR.out]; exact HZ.out.symm))
                  have dc := OW4.out.cell HRS.out.symm y (by rw [HRS.out]; exact hly)
                  have fz := OW4.out.frozen HRS.out.symm y
                  have B8 := (Below.refl g2 q4).setCell (p := ⟨g2, y, none⟩) (Nat.le_refl g2) (.int .i64 K)
                  have O8 := Lib.hid (OW4.out.store HRS.out.symm y K)
                  have S8 := Lib.hid (SJ4.out.under B8 HNE.out.1)
                  have P8 := Lib.hid (PJ4.out.under B8 HNE.out.2.1)
                  clear B8 SJ4 PJ4 OW4 HZ HM
                  go_wp2_with fail
                  go_roundw
                  case rel => exact ⟨y + 1, MM + 1, zi.set y K, by omega, by go_num, by omega, S8, P8, O8, I8⟩
                  case measure => simp [intOf]; omega
                · clear HZ HM PJ4 OW4
                  go_wp2_with fail
                  refine (sane13_any _).mono ?_
                  rintro e wz ⟨rfl, BZ⟩
                  have HZ := Lib.hid (SJ4.out.bel.trans (BZ.mono SJ4.out.bel.size))
                  clear BZ
                  go_wp2_with fail
                  go_ret
                  exact ⟨rfl, HZ.out⟩
            · have I8 := Lib.hid (I7.out.skip e)
              have hbe : (blk l y != (bb : Int)) = true := by simpa using e
              generalize blk l y = bY at *
              clear e
              go_wp2_with fail
              go_roundw
              case rel => exact ⟨y + 1, MM, zi, by omega, by go_num, by omega, S7, P7, O7, I8⟩
              case measure => simp [intOf]; omega
          · obtain rfl : y = pn := by omega
            have I8 := Lib.hid (show BInv l wt (bb + 1) 0 zi from BInv.nextB (by rw [← HL.out]; exact I7.out))
            clear hly
            go_wp2_with fail
            go_roundw
            case rel => exact ⟨bb + 1, MM, zi, by omega, by go_num, by omega, S7, P7, O7, I8⟩
            case measure => simp [intOf]; omega
      · have hbe : bb = 32 := by omega
        have I8 := Lib.hid (show BInv l wt 32 0 zs1 from hbe ▸ I7.out)
        clear hbe
        have HPLN := Lib.hid (I8.out.plan HF.out.blk)
        have hb32 : ¬ (bb : Int) < 32 := by omega
        have HLE := Lib.hid (fun y (hy : y < l.length) => (HSOL.out.least HF.out HPLN.out y hy).2)
        have hzl : zs1.length = pn := by rw [I7.out.len, HL.out]
        have HZL := Lib.hid hzl
        have HBD := Lib.hid I7.out.bd
        have hR := show Row .i64 wr wr.heap.size (some ⟨g2, 0, none⟩) zs1 from by
          exact own_row O7.out
        have HR7 := Lib.hid hR
        have HSO := Lib.hid (fun (W : World) (k : Below wr.heap.size wr W) => sorts13_any l jA (some ⟨g2, 0, none⟩) jc pn pn wt zs1 HL.out (by omega) hzl HPLN.out.sort (fun y => by have := HBD.out y; omega) W (S7.out.below k).irow (hR.below k))
        clear hlt hR hzl I8
        go_wp2_with fail
        clear hb32
        go_loopw [87] (fun iv wi => ∃ y : Nat, y ≤ pn ∧ iv = .int .i64 (y : Int) ∧ Hid (Below wr.heap.size wr wi)) (fun iv _ => pn - (intOf iv).toNat)
        case atStart => exact ⟨0, by omega, rfl, Lib.hid (Below.refl _ _)⟩
        case round =>
          obtain ⟨y, hy, rfl, BI⟩ := hrel
          have S9 := Lib.hid (S7.out.below BI.out)
          have P9 := Lib.hid (P7.out.below BI.out)
          by_cases hly : y < pn
          · have hyl : y < l.length := by rw [← HL.out]; exact hly
            obtain ⟨pad, rfl, _, cp⟩ := P9.out.row.1 y (by rw [HVL.out]; exact hly)
            obtain ⟨p0, p1, -, pl⟩ := P9.out.box
            have dc := (O7.out.below BI.out).cell HZL.out.symm y (by rw [HZL.out]; exact hly)
            have hle : ¬ zs1.getD y 0 < v.getD y 0 := by have := HLE.out y hyl; omega
            have hyi : (y : Int) < (pn : Int) := by omega
            generalize v.getD y 0 = vy at *
            generalize zs1.getD y 0 = uy at *
            go_wp2_with fail
            go_quiet (fail)
            go_wp2_with fail
            go_roundw
            case rel => exact ⟨y + 1, by omega, by go_num, Lib.hid (bdn BI.out)⟩
            case measure => simp [intOf]; omega
          · have J := S9.out.box
            rw [← HL.out] at J
            obtain ⟨j0, j1, jl⟩ := J
            go_wp2_with fail
            refine (HSO.out _ BI.out).mono ?_
            rintro e w9 ⟨rfl, B9⟩
            have S10 := Lib.hid (S9.out.below B9)
            clear j0 j1 jl B9
            go_wp2_with fail
            refine (sane13_any _).mono ?_
            rintro e wz ⟨rfl, BZ⟩
            have HZ := Lib.hid (S10.out.bel.trans (BZ.mono S10.out.bel.size))
            clear BZ
            go_wp2_with fail
            go_ret
            exact ⟨rfl, HZ.out⟩
theorem bel_law (a : Option Addr) (len cap : Nat) (zs : List Int) (w : World) (h : IsRow .i64 w a len cap zs) :
    Calls Try.prog 8 #[.slice a len cap] w fun e w' => e = .returned (.bool true) ∧ Below w.heap.size w w' := by
  obtain ⟨l, rfl, h1, h2, h3⟩ := h.row
  exact bel_walk a cap l w h1 h2 h3
end Go.Proofs.Ytcplanafcnnodaa
