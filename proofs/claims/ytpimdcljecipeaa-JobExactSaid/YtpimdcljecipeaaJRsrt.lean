/-
  Stage 11: the reference's Sorted.
-/
import Derived.Test.YtpimdcljecipeaaJRef
import Derived.Test.YtpimdcljecipeaaJSrt
set_option linter.unusedSimpArgs false
set_option linter.unusedVariables false
namespace Go.Proofs.Ytpimdcljecipeaa
open Go.RowKit Go.Lib

def cntT (s : List Bool) : Nat := s.count true
theorem cnt_set {s : List Bool} {x : Nat} (hx : x < s.length) (h : s.getD x false = false) : cntT (s.set x true) = cntT s + 1 := by
  unfold cntT
  induction s generalizing x with
  | nil => simp at hx
  | cons b s ih =>
    cases x with
    | zero =>
      have hb : b = false := h
      subst hb
      simp
    | succ x =>
      have := ih (x := x) (by simpa using hx) h
      rw [List.set_cons_succ, List.count_cons, List.count_cons, this]
      omega
theorem cnt_all (s : List Bool) : (cntT s = s.length) ↔ hasF s = false := by
  unfold cntT hasF
  rw [List.count_eq_length]
  constructor
  · intro h
    rw [Bool.eq_false_iff]
    intro hc
    rw [List.contains_iff_mem] at hc
    have := h false hc
    cases this
  · intro h b hb
    cases b with
    | true => rfl
    | false =>
      rw [← List.contains_iff_mem, h] at hb
      cases hb
theorem cnt_le (s : List Bool) : cntT s ≤ s.length := List.count_le_length
theorem cnt_zero (n : Nat) : cntT (List.replicate n false) = 0 := by
  unfold cntT; rw [List.count_replicate]; simp
set_option maxRecDepth 100000 in
set_option maxHeartbeats 3200000 in
theorem rsorted_any (l : List It) (A : Option Addr) (c : Nat) (wt : Int) (ts : List (List Int)) (P : Option Addr) (pc : Nat) (w : World) (h : IRow w A l) (hp : PP w P ts) (hm : ts.length ≤ maxLen) :
    Calls Try.prog 25 #[jv A l.length c wt, .slice P ts.length pc] w fun e w' => e = .returned (RB (sortE l wt ts)) ∧ Below w.heap.size w w' := by
  have H := Lib.hid h
  have HP := Lib.hid hp
  have hts : ts.length ≤ 9223372036854775807 := hm
  obtain ⟨L, hL⟩ : ∃ n, n = l.length := ⟨_, rfl⟩
  have HL := Lib.hid hL
  obtain ⟨T, hT⟩ : ∃ n, n = ts.length := ⟨_, rfl⟩
  have HT := Lib.hid hT
  have HVL := Lib.hid (fun (W : World) (k : IRow W A l) => rvalid_any l A c wt W k)
  rw [← hL] at HVL ⊢
  rw [← hT] at hts ⊢
  have B0 := Lib.hid ((Below.refl w.heap.size w).alloc (Nat.le_refl _) (.cells #[.slice A L c, .int .i64 wt] 25))
  have J0 := Lib.hid (JBox.new (w := w) (A := A) (n := L) (c := c) (wt := wt) w.heap.size rfl)
  obtain ⟨b, hb⟩ : ∃ b, b = w.heap.size := ⟨_, rfl⟩
  clear h hL hp hm hT
  go_enter Try.func25, Try.ntmps25
  go_upto_region 1 with fail
  rw [← hb] at J0 ⊢
  generalize w.alloc (.cells #[.slice A L c, .int .i64 wt] 25) = w1 at *
  obtain ⟨j0, j1, jl⟩ := J0.out
  clear hb
  go_wp2_with fail
  refine (HVL.out w1 (H.out.below B0.out)).mono ?_
  rintro e w2 ⟨rfl, hB2⟩
  have J2 := Lib.hid (J0.out.below hB2 jl)
  have B2 := Lib.hid (B0.out.trans (hB2.mono B0.out.size))
  clear j0 j1 jl J0 B0 hB2 HVL
  obtain ⟨j0, j1, jl⟩ := J2.out
  by_cases he : validR l wt = 0
  · obtain ⟨p1, p2, p3⟩ := valid_ok he
    have HE := Lib.hid (show sortE l wt ts = (sortedB l ts, 0) from if_pos he)
    rw [he]
    rw [← HL.out] at p1
    clear he p2 p3
    have hmk := make_bools w2 L (by omega)
    have S0 := Lib.hid (BSet.new w2 (List.replicate L false) w2.heap.size rfl)
    have B3 := Lib.hid ((Below.refl w2.heap.size w2).alloc (Nat.le_refl _) (.cells ((List.replicate L false).map Value.bool).toArray 4))
    have Z0 := Lib.hid (show (List.replicate L false).length = l.length ∧ goT l 0 (List.replicate l.length false) ts = goT l 0 (List.replicate L false) ts ∧ cntT (List.replicate L false) = 0 from ⟨by rw [HL.out]; simp, by rw [HL.out], cnt_zero L⟩)
    obtain ⟨g, hg⟩ : ∃ g, g = w2.heap.size := ⟨_, rfl⟩
    have HG := Lib.hid hg
    rw [← hg] at S0 hmk B3
    generalize w2.alloc (.cells ((List.replicate L false).map Value.bool).toArray 4) = w3 at *
    generalize List.replicate L false = s0 at *
    clear hg
    go_wp2_with fail
    go_loopw [8, 9] (fun nv iv wr => ∃ (k : Nat) (s : List Bool), k ≤ T ∧ iv = .int .i64 (k : Int) ∧ nv = .int .i64 (cntT s : Int) ∧ Hid (BSet wr g s) ∧ Hid (s.length = l.length ∧ goT l 0 (List.replicate l.length false) ts = goT l (k : Int) s (ts.drop k)) ∧ Hid (Below g w2 wr)) (fun _ iv _ => T - (intOf iv).toNat)
    case atStart => exact ⟨0, s0, by omega, rfl, by rw [Z0.out.2.2]; rfl, S0, Lib.hid ⟨Z0.out.1, Z0.out.2.1⟩, B3⟩
    case round =>
      clear S0 Z0 B3 hmk j0 j1 jl
      obtain ⟨k, s, hk, rfl, rfl, S, Z, B⟩ := hrel
      have BW := Lib.hid (B2.out.trans ((show Below w2.heap.size w2 wr by rw [← HG.out]; exact B.out).mono B2.out.size))
      by_cases hlt : k < T
      · have hkt : k < ts.length := by rw [← HT.out]; exact hlt
        obtain ⟨pad, rfl, pbl, pa, qc, pcw, pr, pm⟩ := HP.out k _ (getD_ex [] hkt)
        have HPC := Lib.hid (fun (W : World) (kk : Below w.heap.size w W) => (kk.cell (p := pad.add k) (by rw [add_block]; exact pbl)).trans pcw)
        clear pcw
        have Zd := Z.out.2
        rw [drop_any [] hkt] at Zd
        obtain ⟨p, hpp⟩ : ∃ p, p = ts.getD k [] := ⟨_, rfl⟩
        have HPP := Lib.hid hpp
        rw [← hpp] at HPC pr pm Zd
        have pm' : p.length ≤ 9223372036854775807 := pm
        have ZD := Lib.hid Zd
        have PRW := Lib.hid (show Row .i64 w w.heap.size pa p from pr)
        obtain ⟨N, hN⟩ : ∃ n, n = p.length := ⟨_, rfl⟩
        have HN := Lib.hid hN
        rw [← hN] at HPC pm'
        have I0 := Lib.hid (show Inn l (k : Int) s s p 0 from ⟨rfl, Z.out.1, fun y hy => by cases hy⟩)
        have hkT : (k : Int) < (T : Int) := by omega
        clear hpp Zd pr pm hN Z hkt BW
        go_wp2_with fail
        go_loopw [8, 10] (fun nv iv wi => ∃ (n : Nat) (si : List Bool), n ≤ N ∧ iv = .int .i64 (n : Int) ∧ nv = .int .i64 (cntT si : Int) ∧ Hid (BSet wi g si) ∧ Hid (Inn l (k : Int) s si p n) ∧ Hid (Below g w2 wi)) (fun _ iv _ => N - (intOf iv).toNat)
        case atStart => exact ⟨0, s, by omega, rfl, rfl, S, I0, B⟩
        case round =>
          clear S B I0
          obtain ⟨n, si, hn, rfl, rfl, Si, I, Bi⟩ := hrel
          have BW := Lib.hid (B2.out.trans ((show Below w2.heap.size w2 wr by rw [← HG.out]; exact Bi.out).mono B2.out.size))
          have pcl := HPC.out wr BW.out
          have hcl := cnt_le si
          rw [I.out.len, ← HL.out] at hcl
          by_cases hln : n < N
          · have hnp : n < p.length := by rw [← HN.out]; exact hln
            obtain ⟨pad2, rfl, _, cx⟩ := (PRW.out.below BW.out) n hnp
            obtain ⟨x, hx⟩ : ∃ x, x = p.getD n 0 := ⟨_, rfl⟩
            have HX := Lib.hid hx
            rw [← hx] at cx
            have J3 := J2.out.below Bi.out (by rw [HG.out]; exact J2.out.lt)
            obtain ⟨j0, j1, jl⟩ := J3
            have NO := Lib.hid (fun (hs : stepOk l (k : Int) (prv p n) si x = false) => show sortE l wt ts = (false, 0) from by
              rw [HE.out]
              rw [HX.out] at hs
              rw [sortedB_no (by rw [ZD.out, goT_no (I.out.no (by rw [← HN.out]; exact hln) hs)])])
            have hgw : g < wr.heap.size := Si.out.lt
            have hln' : (n : Int) < (N : Int) := by omega
            clear hx hnp
            go_upto_region 13 with fail
            by_cases hx1 : x < 0
            · have HR := Lib.hid (NO.out (step_index (Bool.eq_false_iff.2 (fun g => by have := (btw_iff.1 g).1; omega))))
              go_quiet (fail)
              go_wp2_with fail
              go_ret2
              exact ⟨ret_rb HR.out, bdn BW.out⟩
            · have hx1d : decide (x < 0) = false := decide_eq_false hx1
              by_cases hx2 : (L : Int) ≤ x
              · have HR := Lib.hid (NO.out (step_index (Bool.eq_false_iff.2 (fun g => by have := (btw_iff.1 g).2; rw [← HL.out] at this; omega))))
                go_quiet (fail)
                go_wp2_with fail
                go_ret2
                exact ⟨ret_rb HR.out, bdn BW.out⟩
              · have hx2d : decide ((L : Int) ≤ x) = false := decide_eq_false hx2
                have HBX := Lib.hid (show btw x 0 ((l.length : Int) - 1) = true from btw_iff.2 (by rw [← HL.out]; omega))
                obtain ⟨X, rfl⟩ := Int.eq_ofNat_of_zero_le (show 0 ≤ x by omega)
                have hXL : X < L := by omega
                have hXL' : (X : Int) < (L : Int) := by omega
                have hx0d : decide ((X : Int) < 0) = false := decide_eq_false (by omega)
                have csn := Si.out.cell X (by rw [I.out.len, ← HL.out]; exact hXL)
                cases hsn : si.getD X false
                · rw [hsn] at csn
                  obtain ⟨ad, rfl, c0, c1, _, _⟩ := (H.out.below BW.out).two (x := X) (y := X) (by rw [← HL.out]; exact hXL) (by rw [← HL.out]; exact hXL)
                  have HSN := Lib.hid hsn
                  by_cases ht : trn l X = (k : Int)
                  · have htn : (trn l X != (k : Int)) = false := by simpa using ht
                    have fz := Si.out.frozen X
                    have S2 := Lib.hid (Si.out.set X true)
                    have B4 := Lib.hid (Bi.out.setCell (p := ⟨g, X, none⟩) (Nat.le_refl g) (.bool true))
                    have OK := Lib.hid (fun (hs : stepOk l (k : Int) (prv p n) si (X : Int) = true) => show Inn l (k : Int) s (si.set X true) p (n + 1) from by
                      have := I.out.ok (by rw [← HN.out]; exact hln) (by rw [← HX.out]; exact HBX.out) (by rw [← HX.out]; exact hs)
                      rwa [← HX.out] at this)
                    have HTK := Lib.hid ht
                    have HCN := Lib.hid (cnt_set (s := si) (x := X) (by rw [I.out.len, ← HL.out]; exact hXL) hsn)
                    clear hsn ht
                    cases n with
                    | zero =>
                      have e0 : pad2.add 0 = pad2 := by unfold Addr.add; rw [if_pos rfl]
                      rw [e0] at cx
                      have I2 := Lib.hid (OK.out (step_first HBX.out HSN.out HTK.out))
                      clear e0
                      go_quiet (fail)
                      go_wp2_with fail
                      go_roundw
                      case rel => exact ⟨0 + 1, si.set X true, by omega, by go_num, by rw [HCN.out]; rfl, Lib.hid (S2.out.drewN _), I2, Lib.hid (bdn B4.out)⟩
                      case measure => simp [intOf]; omega
                    | succ m =>
                      have hng : (0 : Int) < (m : Int) + 1 := by omega
                      rw [add_sc] at cx
                      obtain ⟨_, e', _, cy⟩ := (PRW.out.below BW.out) m (by rw [← HN.out]; omega)
                      obtain rfl : pad2 = _ := by injection e'
                      have hyb := I.out.prev _ (prv_succ p m)
                      obtain ⟨y, hy⟩ : ∃ y, y = p.getD m 0 := ⟨_, rfl⟩
                      have HPV := Lib.hid (show prv p (m + 1) = some y by rw [hy]; rfl)
                      rw [← hy] at cy hyb
                      rw [← HL.out] at hyb
                      obtain ⟨y1, y2⟩ := btw_iff.1 hyb
                      obtain ⟨Y, rfl⟩ := Int.eq_ofNat_of_zero_le y1
                      have hYL : Y < L := by omega
                      have hYL' : (Y : Int) < (L : Int) := by omega
                      obtain ⟨_, e2, d0, d1, _, _⟩ := (H.out.below BW.out).two (x := Y) (y := Y) (by rw [← HL.out]; exact hYL) (by rw [← HL.out]; exact hYL)
                      obtain rfl : ad = _ := by injection e2
                      have hm1 : (m : Int) < (N : Int) := by omega
                      have hm0 : (0 : Int) ≤ (m : Int) := by omega
                      have NX := Lib.hid (show stepOk l (k : Int) (prv p (m + 1)) si (X : Int) = !decide (blk l X < blk l Y) by rw [HPV.out]; exact step_next HBX.out HSN.out HTK.out)
                      clear hy hyb y1 e' e2
                      generalize blk l X = bx at *
                      generalize blk l Y = bY at *
                      by_cases hlt2 : bx < bY
                      · have HR := Lib.hid (NO.out (by rw [NX.out, decide_eq_true hlt2]; rfl))
                        go_quiet (fail)
                        go_wp2_with fail
                        go_ret2
                        exact ⟨ret_rb HR.out, bdn BW.out⟩
                      · have I2 := Lib.hid (OK.out (by rw [NX.out, decide_eq_false hlt2]; rfl))
                        have hltd : decide (bx < bY) = false := decide_eq_false hlt2
                        go_quiet (fail)
                        go_wp2_with fail
                        go_roundw
                        case rel => exact ⟨m + 1 + 1, si.set X true, by omega, by go_num, by rw [HCN.out]; rfl, Lib.hid (S2.out.drewN _), I2, Lib.hid (bdn B4.out)⟩
                        case measure => simp [intOf]; omega
                  · have htn : (trn l X != (k : Int)) = true := by simpa using ht
                    have HR := Lib.hid (NO.out (step_train ht))
                    go_quiet (fail)
                    go_wp2_with fail
                    go_ret2
                    exact ⟨ret_rb HR.out, bdn BW.out⟩
                · have HR := Lib.hid (NO.out (step_seen hsn))
                  rw [hsn] at csn
                  go_quiet (fail)
                  go_wp2_with fail
                  go_ret2
                  exact ⟨ret_rb HR.out, bdn BW.out⟩
          · obtain rfl : n = N := by omega
            have Z2 := Lib.hid (show si.length = l.length ∧ goT l 0 (List.replicate l.length false) ts = goT l ((k : Int) + 1) si (ts.drop (k + 1)) from ⟨I.out.len, by
              rw [ZD.out]
              refine goT_ok ?_
              rw [I.out.eq, HN.out, List.drop_length]; rfl⟩)
            clear I hln
            go_wp2_with fail
            go_roundw
            case rel => exact ⟨k + 1, si, by omega, by go_num, rfl, Si, Z2, Bi⟩
            case measure => simp [intOf]; omega
      · obtain rfl : k = T := by omega
        have hsl : s.length = L := by rw [Z.out.1, HL.out]
        have HR := Lib.hid (show sortE l wt ts = (!hasF s, 0) from by
          rw [HE.out, sortedB_some (by rw [Z.out.2, HT.out, List.drop_length]; rfl)])
        have hcl := cnt_le s
        have hca := cnt_all s
        rw [hsl] at hcl hca
        clear Z hlt hsl
        by_cases e : cntT s = L
        · have hf := hca.1 e
          have HR2 := Lib.hid (show sortE l wt ts = (true, 0) by rw [HR.out, hf]; rfl)
          have he2 : ((cntT s : Int) == (L : Int)) = true := by simp [e]
          clear hca hf e HR
          go_wp2_with fail
          go_ret2
          exact ⟨ret_rb HR2.out, BW.out⟩
        · have hf : hasF s = true := by
            cases hh : hasF s with
            | true => rfl
            | false => exact absurd (hca.2 hh) e
          have HR2 := Lib.hid (show sortE l wt ts = (false, 0) by rw [HR.out, hf]; rfl)
          have he2 : ((cntT s : Int) == (L : Int)) = false := by simpa using (by omega : ¬ (cntT s : Int) = (L : Int))
          clear hca hf e HR
          go_wp2_with fail
          go_ret2
          exact ⟨ret_rb HR2.out, BW.out⟩
  · have HE := Lib.hid (show sortE l wt ts = (false, validR l wt) from if_neg he)
    have hne : (validR l wt != 0) = true := bne_iff_ne.2 he
    clear he
    go_wp2_with fail
    go_ret2
    exact ⟨ret_rb HE.out, B2.out⟩
end Go.Proofs.Ytpimdcljecipeaa
