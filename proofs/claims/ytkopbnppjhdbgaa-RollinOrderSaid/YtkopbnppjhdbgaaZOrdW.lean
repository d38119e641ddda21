/-
  Stage 14: the walk of RollinOrder.
-/
import Derived.Test.YtkopbnppjhdbgaaZB
set_option linter.unusedSimpArgs false
set_option linter.unusedVariables false
namespace Go.Proofs.Ytkopbnppjhdbgaa
open Go.RowKit Go.Lib

/-- The lists ahead of list k. -/
theorem flat_succ {ls : List (List Nat)} {k : Nat} (h : k < ls.length) : (ls.take (k + 1)).flatten.length = (ls.take k).flatten.length + (ls.getD k []).length := by
  rw [List.take_succ_eq_append_getElem h, List.flatten_append, List.length_append, List.getD_eq_getElem?_getD, List.getElem?_eq_getElem h]
  simp
theorem pp_nat {w : World} {A : Option Addr} {ls : List (List Nat)} (h : PP w A (ls.map toZ)) {k : Nat} (hk : k < ls.length) :
    ∃ ad : Addr, A = some ad ∧ ∃ a c, w.cell? (ad.add k) = some (.slice a (ls.getD k []).length c) ∧ Row .i64 w w.heap.size a (toZ (ls.getD k [])) := by
  obtain ⟨ad, e, _, a, c, h1, h2, _⟩ := h k _ (getD_ls hk)
  rw [toZ_len] at h1
  exact ⟨ad, e, a, c, h1, h2⟩
theorem flat_le (ls : List (List Nat)) (k : Nat) : (ls.take k).flatten.length ≤ ls.flatten.length := by
  have : ls.flatten = (ls.take k).flatten ++ (ls.drop k).flatten := by rw [← List.flatten_append, List.take_append_drop]
  rw [this, List.length_append]; omega

set_option maxRecDepth 100000 in
set_option maxHeartbeats 6400000 in
theorem ord_walk (A : Option Addr) (c : Nat) (zs : List Int) (w : World) (hr : Row .i64 w w.heap.size A zs) (hm : zs.length ≤ maxLen) (hw : ∀ n ∈ zs, (Lit.int .i64 n).wf = true) :
    Calls Try.prog 5 #[.slice A zs.length c] w fun e w' => e = .returned (.bool true) ∧ Below w.heap.size w w' := by
  have K := Lib.hid (mk_row (c := c) (T := 73) hr hm hw)
  have B := Lib.hid ((Below.refl w.heap.size w).alloc (Nat.le_refl _) (.cells #[.slice A zs.length c, .int .i64 0] 73))
  clear hr hw
  go_enter Try.func5, Try.ntmps5
  go_wp2_with fail
  refine (new_any A zs.length c w).mono ?_
  rintro e w1 ⟨rfl, hw1⟩
  rw [← hw1] at K B
  clear hw1 hm
  go_wp2_with fail
  refine mjob_start w w1 16 (by omega) K.out B.out ?_
  intro jA jc l wt w2 hl hlt hS
  obtain ⟨b, hb⟩ : ∃ b, b = w2.heap.size := ⟨_, rfl⟩
  have S3 := Lib.hid (hS b hb)
  clear K B hS hlt
  go_upto_region 3 with fail
  rw [← hb]
  generalize w2.alloc (.cells #[.slice jA l.length jc, .int .i64 wt] 24) = w3 at *
  clear hb
  obtain ⟨L, hL⟩ : ∃ n, n = l.length := ⟨_, rfl⟩
  have HL := Lib.hid hL
  have HPN := Lib.hid (plan_any l jA jc L wt hL w.heap.size (5 + 5 * 16) (by omega) w3 S3.out.val (by have := S3.out.own; rw [← hL] at this; exact this) S3.out.mkr)
  have J := S3.out.box
  rw [← hL] at J hl ⊢
  obtain ⟨j0, j1, jl⟩ := J
  clear hL
  go_wp2_with fail
  refine HPN.out.mono ?_
  rintro e w4 ⟨S, pA, pc, v, rfl, PO, hpl, k4, v4⟩
  have HPL := Lib.hid hpl
  have S4 := Lib.hid (S3.out.step v4 k4)
  obtain ⟨g1, hg1⟩ : ∃ g, g = w4.heap.size := ⟨_, rfl⟩
  have P4 := Lib.hid (PSt.new (st := (S : Int)) (m := w.heap.size) PO (Nat.lt_trans S3.out.lt S3.out.box.lt) g1 hg1 (by rw [hg1]; have := S4.out.lt; have := S4.out.box.lt; omega))
  have BX := (Below.refl w4.heap.size w4).alloc (Nat.le_refl _) (.cells #[.int .i64 (S : Int), .slice pA v.length pc] 27)
  have S5 := Lib.hid (S4.out.below BX)
  have hvl := hpl.len
  rw [← HL.out] at hvl
  clear j0 j1 jl S3 S4 PO BX k4 v4 hpl HPN
  go_upto_region 4 with fail
  rw [← hg1]
  rw [hvl] at P4 S5
  generalize w4.alloc (.cells #[.int .i64 (S : Int), .slice pA L pc] 27) = w5 at *
  clear hg1
  have HVL := Lib.hid hvl
  have hS12 := HPL.out.s12
  have hL16 : L ≤ 16 := hl
  clear hvl hl
  have HRU := Lib.hid (fun (W : World) (k : IRow W jA l) (q : Row .i64 W W.heap.size pA v) => run_any l jA jc L wt (S : Int) v pA L pc HL.out HVL.out.symm W k q (by rw [HVL.out]; unfold maxLen; omega))
  have HV0 := Lib.hid HPL.out.val14
  have J := S5.out.box
  rw [← HL.out] at J
  obtain ⟨j0, j1, jl⟩ := J
  obtain ⟨p0, p1, -, pl⟩ := P4.out.box
  go_wp2_with fail
  refine (HRU.out w5 S5.out.irow P4.out.row.1).mono ?_
  rintro e w6 hc
  obtain ⟨-, S', gr, hSS, -, rfl, hC⟩ := hc.resolve_left (fun h => h.1 HV0.out)
  obtain rfl : S = S' := by omega
  obtain ⟨T, hT⟩ : ∃ T, T = tnT l := ⟨_, rfl⟩
  have HTT := Lib.hid hT
  have hT16 : T ≤ 16 := by rw [hT]; have := (tcI_bd (valid_ok HPL.out.val).2.1 l.length (Nat.le_refl _)).1; unfold tnT; omega
  rw [← hT]
  obtain ⟨mv, hmv⟩ : ∃ x, x = mM S l.length (cdN v) (rdN l) (S + 1) := ⟨_, rfl⟩
  rw [← hmv]
  have BX := (Below.refl w6.heap.size w6).alloc (Nat.le_refl _) (.cells #[.slice (some ⟨gr, 0, none⟩) T T, .int .i64 (mv : Int)] 32)
  have BB := hC.bel.trans (BX.mono hC.bel.size)
  have S6 := Lib.hid (S5.out.below BB)
  have P6 := Lib.hid (P4.out.below BB)
  obtain ⟨ls, hls⟩ : ∃ ls, ls = mT S l.length (tnT l) (cdN v) (rdN l) (tnN l) (S + 1) := ⟨_, rfl⟩
  have HLS := Lib.hid hls
  have hpp := hC.pp.below BX
  rw [← hls] at hpp
  have HPP := Lib.hid hpp
  have HS6 := Lib.hid (show (w6.alloc (.cells #[.slice (some ⟨gr, 0, none⟩) T T, .int .i64 (mv : Int)] 32)).cell? ⟨w6.heap.size, 0, none⟩ = some (.slice (some ⟨gr, 0, none⟩) T T) from by rw [cell_new]; rfl)
  clear hc hSS hC BX BB j0 j1 jl p0 p1 pl S5 P4 HRU hT hmv hls hpp
  go_upto_region 5 with fail
  obtain ⟨sb, hsb⟩ : ∃ x, x = w6.heap.size := ⟨_, rfl⟩
  rw [← hsb] at HS6 ⊢
  generalize w6.alloc (.cells #[.slice (some ⟨gr, 0, none⟩) T T, .int .i64 (mv : Int)] 32) = w7 at *
  clear hsb
  have s0 := HS6.out
  go_wp2_with fail
  clear s0
  have HLN := Lib.hid (show ls.length = T by rw [HLS.out, mT_len, HTT.out])
  have HFL := Lib.hid (show ls.flatten.length = L by rw [HLS.out, flatT HPL.out.fitN, HL.out])
  go_loopw [8, 31] (fun xv iv wr => ∃ k : Nat, k ≤ T ∧ iv = .int .i64 (k : Int) ∧ xv = .int .i64 (((ls.take k).flatten.length : Nat) : Int) ∧ Hid (∃ q, wr = w7.drewN q)) (fun _ iv _ => T - (intOf iv).toNat)
  case atStart => exact ⟨0, by omega, rfl, rfl, Lib.hid ⟨0, rfl⟩⟩
  case round =>
    obtain ⟨k, hk, rfl, rfl, HW⟩ := hrel
    have HBW := Lib.hid (show Below w7.heap.size w7 wr by obtain ⟨q, e⟩ := HW.out; rw [e]; exact ⟨rfl, rfl, rfl, Nat.le_refl _, fun _ _ => rfl⟩)
    by_cases hlt : k < T
    · have hkl : k < ls.length := by rw [HLN.out]; exact hlt
      have hki : (k : Int) < (T : Int) := by omega
      obtain ⟨ad, ead, a, ca, c1, R1⟩ := pp_nat (HPP.out.below HBW.out) hkl
      have had : ad = ⟨gr, 0, none⟩ := by injection ead with e; exact e.symm
      subst had
      rw [add_own] at c1
      have HFS := Lib.hid (flat_succ hkl)
      have HFB := Lib.hid (show (ls.take k).flatten.length + (ls.getD k []).length ≤ L by rw [← HFS.out, ← HFL.out]; exact flat_le ls (k + 1))
      have hon := onT_end HPL.out.fitN (b := k) (by rw [← HTT.out]; exact hlt)
      rw [← HLS.out] at hon
      have HON := Lib.hid hon
      obtain ⟨Q, hQ⟩ : ∃ Q, Q = ls.getD k [] := ⟨_, rfl⟩
      rw [← hQ] at c1 R1 HFS HFB HON
      have HQ := Lib.hid R1
      obtain ⟨qn, hqn⟩ : ∃ n, n = Q.length := ⟨_, rfl⟩
      rw [← hqn] at c1
      have HQN := Lib.hid hqn
      obtain ⟨n0, hn0⟩ : ∃ n, n = (ls.take k).flatten.length := ⟨_, rfl⟩
      rw [← hn0] at HFS HFB ⊢
      have hqb : n0 + qn ≤ 16 := by have := HFB.out; omega
      clear hon ead R1 hQ hqn hn0
      go_wp2_with fail
      clear c1
      generalize wr = wo at *
      go_loopw [8, 38] (fun xv iv wr => ∃ i : Nat, i ≤ qn ∧ iv = .int .i64 (i : Int) ∧ xv = .int .i64 ((n0 : Int) + (i : Int)) ∧ Hid (∃ q, wr = wo.drewN q)) (fun _ iv _ => qn - (intOf iv).toNat)
      case atStart => exact ⟨0, by omega, rfl, by simp, Lib.hid ⟨0, rfl⟩⟩
      case round =>
        obtain ⟨i, hi, rfl, rfl, HW2⟩ := hrel
        have HB2 := Lib.hid (show Below wo.heap.size wo wr by obtain ⟨q, e⟩ := HW2.out; rw [e]; exact ⟨rfl, rfl, rfl, Nat.le_refl _, fun _ _ => rfl⟩)
        by_cases hlt2 : i < qn
        · have hiq : i < Q.length := by rw [← HQN.out]; exact hlt2
          have hii : (i : Int) < (qn : Int) := by omega
          obtain ⟨qad, rfl, qlt, ci⟩ := (HQ.out.below HB2.out) i (by rw [toZ_len]; exact hiq)
          rw [toZ_at Q hiq] at ci
          obtain ⟨hxL, hxt⟩ := (HON.out.1 _).1 (getD_memN hiq)
          have SR := S6.out.below (HBW.out.trans (HB2.out.mono HBW.out.size))
          have PR := P6.out.below (HBW.out.trans (HB2.out.mono HBW.out.size))
          have HPV := Lib.hid (fun (x : Nat) (hx : x < l.length) => PR.row.1 x (by rw [HVL.out, HL.out]; exact hx))
          obtain ⟨x, hx⟩ : ∃ x, x = Q.getD i 0 := ⟨_, rfl⟩
          rw [← hx] at ci hxL hxt
          obtain ⟨aA, rfl, CE⟩ := SR.irow.at_ x hxL
          obtain ⟨c0, -, -, -⟩ := CE.spelt
          have htv : (l.getD x it0).1 = (k : Int) := by
            have := (HPL.out.tn hxL).1
            rw [hxt] at this
            exact this
          rw [htv] at c0
          have J := SR.box
          rw [← HL.out] at J
          obtain ⟨j0, j1, jl⟩ := J
          obtain ⟨p0, p1, -, pl⟩ := PR.box
          obtain ⟨pad, rfl, plt, cx⟩ := HPV.out x hxL
          rw [(HPL.out.cd hxL).1] at cx
          have hxL2 : x < L := by rw [HL.out]; exact hxL
          have hxLi : (x : Int) < (L : Int) := by omega
          have hx0 : ¬ (x : Int) < 0 := by omega
          have hxL3 : ¬ (L : Int) ≤ (x : Int) := by omega
          have hkk : ((k : Int) != (k : Int)) = false := by simp
          obtain ⟨X, hX⟩ : ∃ X, X = cdN v x := ⟨_, rfl⟩
          rw [← hX] at cx
          have HX := Lib.hid hX
          have HXQ := Lib.hid hx
          clear hx hX SR PR CE htv hxt
          go_upto_region 16 with fail
          clear c0 ci j0 j1 jl
          cases i with
          | zero =>
            have hz : ¬ (0 : Int) < ((0 : Nat) : Int) := by omega
            go_quiet (fail)
            clear cx p0 p1 pl
            go_wp2_with fail
            go_roundw
            case rel => exact ⟨0 + 1, by omega, by go_num, by go_num, Lib.hid (by obtain ⟨q, e⟩ := HW2.out; exact ⟨q + nq, by rw [e, World.drewN_drewN]⟩)⟩
            case measure => simp [intOf]; omega
          | succ i' =>
            have hi'q : i' < Q.length := by omega
            have hord := List.pairwise_iff_getElem.1 HON.out.2 i' (i' + 1) hi'q hiq (Nat.lt_succ_self _)
            obtain ⟨qad2, eq2, qlt2, ci2⟩ := (HQ.out.below HB2.out) i' (by rw [toZ_len]; exact hi'q)
            have hqq : qad = qad2 := by injection eq2
            subst hqq
            rw [toZ_at Q hi'q] at ci2
            obtain ⟨hyL, -⟩ := (HON.out.1 _).1 (getD_memN hi'q)
            have e1 : Q[i'] = Q.getD i' 0 := by rw [List.getD_eq_getElem?_getD, List.getElem?_eq_getElem hi'q]; rfl
            have e2 : Q[i' + 1] = Q.getD (i' + 1) 0 := by rw [List.getD_eq_getElem?_getD, List.getElem?_eq_getElem hiq]; rfl
            rw [e1, e2, ← HXQ.out] at hord
            obtain ⟨y, hy⟩ : ∃ y, y = Q.getD i' 0 := ⟨_, rfl⟩
            rw [← hy] at ci2 hyL hord
            obtain ⟨pad2, ep2, plt2, cy⟩ := HPV.out y hyL
            have hpp : pad = pad2 := by injection ep2
            subst hpp
            rw [(HPL.out.cd hyL).1] at cy
            rw [← HX.out] at hord
            obtain ⟨Y, hY⟩ : ∃ Y, Y = cdN v y := ⟨_, rfl⟩
            rw [← hY] at cy hord
            have hyL2 : y < L := by rw [HL.out]; exact hyL
            have hyLi : (y : Int) < (L : Int) := by omega
            have hpi : (0 : Int) < ((i' + 1 : Nat) : Int) := by omega
            have hpi2 : (0 : Int) < (i' : Int) + 1 := by omega
            have hi1 : (i' : Int) + 1 - 1 = (i' : Int) := by omega
            have hi2 : IntKind.i64.wrap ((i' : Int) + 1 - 1) = (i' : Int) := by rw [hi1]; exact IntWalk.i64_in _ (by omega)
            have hi3 : IntKind.i64.wrap (i' : Int) = (i' : Int) := IntWalk.i64_in _ (by omega)
            have hi4 : (i' : Int) < (qn : Int) := by omega
            have hXY : ¬ (X : Int) < (Y : Int) := by omega
            clear e1 e2 eq2 ep2 hy hY
            by_cases hlt3 : Y < X
            · have hne : ((X : Int) == (Y : Int)) = false := beq_eq_false_iff_ne.2 (by omega)
              have hdn : decide ((X : Int) < (Y : Int)) = false := decide_eq_false hXY
              clear hord hlt3
              go_quiet (fail)
              clear cx cy ci2 p0 p1 pl
              go_wp2_with fail
              go_roundw
              case rel => exact ⟨i' + 1 + 1, by omega, by go_num, by go_num, Lib.hid (by obtain ⟨q, e⟩ := HW2.out; exact ⟨q + nq, by rw [e, World.drewN_drewN]⟩)⟩
              case measure => simp [intOf]; omega
            · have heq : X = Y := by omega
              have hyx : y < x := by omega
              subst heq
              have hne : ((X : Int) == (X : Int)) = true := by simp
              have hdn : decide ((X : Int) < (X : Int)) = false := decide_eq_false hXY
              have hle : ¬ (x : Int) ≤ (y : Int) := by omega
              have hdl : decide ((x : Int) ≤ (y : Int)) = false := decide_eq_false hle
              clear hord hlt3
              go_quiet (fail)
              clear cx cy ci2 p0 p1 pl
              go_wp2_with fail
              go_roundw
              case rel => exact ⟨i' + 1 + 1, by omega, by go_num, by go_num, Lib.hid (by obtain ⟨q, e⟩ := HW2.out; exact ⟨q + nq, by rw [e, World.drewN_drewN]⟩)⟩
              case measure => simp [intOf]; omega
        · have hiq : i = qn := by omega
          have hni : ¬ (i : Int) < (qn : Int) := by omega
          have HN1 := Lib.hid (show (n0 : Int) + (i : Int) = (((ls.take (k + 1)).flatten.length : Nat) : Int) by rw [HFS.out, ← HQN.out, hiq]; omega)
          clear hiq hlt2
          go_wp2_with fail
          go_roundw
          case rel => exact ⟨k + 1, by omega, by go_num, by rw [HN1.out], Lib.hid (by obtain ⟨q, e⟩ := HW.out; obtain ⟨q2, e2⟩ := HW2.out; exact ⟨q + q2, by rw [e2, e, World.drewN_drewN]⟩)⟩
          case measure => simp [intOf]; omega
    · have hkT : k = T := by omega
      have hni : ¬ (k : Int) < (T : Int) := by omega
      rw [hkT, ← HLN.out, List.take_length, HFL.out]
      have hll : ((L : Int) == (L : Int)) = true := by simp
      have SR := S6.out.below HBW.out
      have J := SR.box
      rw [← HL.out] at J
      obtain ⟨j0, j1, jl⟩ := J
      have HBL := Lib.hid SR.bel
      have hnl : ¬ ((ls.length : Nat) : Int) < (T : Int) := by rw [HLN.out]; omega
      have hnt : ¬ (T : Int) < (T : Int) := by omega
      clear hlt SR hkT
      rw [HLN.out] at *
      go_wp2_with fail
      refine (sane14_any wr).mono ?_
      rintro e wz ⟨rfl, BZ⟩
      have HZ := Lib.hid (HBL.out.trans (BZ.mono HBL.out.size))
      clear BZ
      go_wp2_with fail
      go_ret
      exact ⟨rfl, HZ.out⟩
theorem ord_law (a : Option Addr) (len cap : Nat) (zs : List Int) (w : World) (h : IsRow .i64 w a len cap zs) :
    Calls Try.prog 5 #[.slice a len cap] w fun e w' => e = .returned (.bool true) ∧ Below w.heap.size w w' := by
  obtain ⟨l, rfl, h1, h2, h3⟩ := h.row
  exact ord_walk a cap l w h1 h2 h3
end Go.Proofs.Ytkopbnppjhdbgaa
