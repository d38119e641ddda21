/-
  Stage 11: the program's Sorted.
-/
import Derived.Test.YtpimdcljecipeaaJSet
set_option linter.unusedSimpArgs false
set_option linter.unusedVariables false
namespace Go.Proofs.Ytpimdcljecipeaa
open Go.RowKit Go.Lib

def sortE (l : List It) (wt : Int) (ts : List (List Int)) : Bool × Int := if validR l wt = 0 then (sortedB l ts, 0) else (false, validR l wt)
abbrev RB (t : Bool × Int) : Value := .tuple #[.bool t.1, .int .i64 t.2]
theorem ret_rb {a : Bool} {b : Int} {t : Bool × Int} (h : t = (a, b)) : Ending.returned (.tuple #[.bool a, .int .i64 b]) = .returned (RB t) := by rw [h]
theorem goT_no {l : List It} {t : Int} {s : List Bool} {p : List Int} {r : List (List Int)} (h : goL l t none s p = none) : goT l t s (p :: r) = none := by
  show (match goL l t none s p with | none => none | some s => goT l (t + 1) s r) = none
  rw [h]
theorem goT_ok {l : List It} {t : Int} {s s' : List Bool} {p : List Int} {r : List (List Int)} (h : goL l t none s p = some s') : goT l t s (p :: r) = goT l (t + 1) s' r := by
  show (match goL l t none s p with | none => none | some s => goT l (t + 1) s r) = _
  rw [h]
theorem sortedB_no {l : List It} {ts : List (List Int)} (h : goT l 0 (List.replicate l.length false) ts = none) : sortedB l ts = false := by
  unfold sortedB; rw [h]
theorem sortedB_some {l : List It} {ts : List (List Int)} {s : List Bool} (h : goT l 0 (List.replicate l.length false) ts = some s) : sortedB l ts = !hasF s := by
  unfold sortedB; rw [h]
theorem prv_succ (p : List Int) (n : Nat) : prv p (n + 1) = some (p.getD n 0) := rfl
theorem step_index {l : List It} {t : Int} {prev : Option Int} {s : List Bool} {x : Int} (h : btw x 0 ((l.length : Int) - 1) = false) : stepOk l t prev s x = false := by
  unfold stepOk; rw [h]; rfl
theorem step_seen {l : List It} {t : Int} {prev : Option Int} {s : List Bool} {x : Int} (h : s.getD x.toNat false = true) : stepOk l t prev s x = false := by
  unfold stepOk; rw [h]; simp
theorem step_train {l : List It} {t : Int} {prev : Option Int} {s : List Bool} {x : Int} (h : trn l x.toNat ≠ t) : stepOk l t prev s x = false := by
  unfold stepOk; rw [decide_eq_false h]; simp
theorem step_first {l : List It} {t : Int} {s : List Bool} {x : Int} (h1 : btw x 0 ((l.length : Int) - 1) = true) (h2 : s.getD x.toNat false = false) (h3 : trn l x.toNat = t) : stepOk l t none s x = true := by
  unfold stepOk; rw [h1, h2, decide_eq_true h3]; rfl
theorem step_next {l : List It} {t : Int} {s : List Bool} {x y : Int} (h1 : btw x 0 ((l.length : Int) - 1) = true) (h2 : s.getD x.toNat false = false) (h3 : trn l x.toNat = t) : stepOk l t (some y) s x = !decide (blk l x.toNat < blk l y.toNat) := by
  unfold stepOk; rw [h1, h2, decide_eq_true h3]; rfl
/-- What is known while a list is read. -/
structure Inn (l : List It) (t : Int) (s0 s : List Bool) (p : List Int) (n : Nat) : Prop where
  eq : goL l t none s0 p = goL l t (prv p n) s (p.drop n)
  len : s.length = l.length
  prev : ∀ y, prv p n = some y → btw y 0 ((l.length : Int) - 1) = true
theorem Inn.ok {l : List It} {t : Int} {s0 s : List Bool} {p : List Int} {n : Nat} (h : Inn l t s0 s p n) (hn : n < p.length) (hx : btw (p.getD n 0) 0 ((l.length : Int) - 1) = true) (hs : stepOk l t (prv p n) s (p.getD n 0) = true) : Inn l t s0 (s.set (p.getD n 0).toNat true) p (n + 1) := by
  refine ⟨?_, by rw [List.length_set]; exact h.len, fun y hy => ?_⟩
  · rw [h.eq, drop_any 0 hn, goL_ok hs]; rfl
  · rw [prv_succ] at hy; injection hy with hy; rw [← hy]; exact hx
theorem Inn.no {l : List It} {t : Int} {s0 s : List Bool} {p : List Int} {n : Nat} (h : Inn l t s0 s p n) (hn : n < p.length) (hs : stepOk l t (prv p n) s (p.getD n 0) = false) : goL l t none s0 p = none := by
  rw [h.eq, drop_any 0 hn, goL_no hs]
set_option maxRecDepth 100000 in
set_option maxHeartbeats 3200000 in
theorem sorted_any (l : List It) (A : Option Addr) (c : Nat) (wt : Int) (ts : List (List Int)) (P : Option Addr) (pc : Nat) (w : World) (h : IRow w A l) (hp : PP w P ts) (hm : ts.length ≤ maxLen) :
    Calls Try.prog 24 #[jv A l.length c wt, .slice P ts.length pc] w fun e w' => e = .returned (RB (sortE l wt ts)) ∧ Below w.heap.size w w' := by
  have H := Lib.hid h
  have HP := Lib.hid hp
  have hts : ts.length ≤ 9223372036854775807 := hm
  obtain ⟨L, hL⟩ : ∃ n, n = l.length := ⟨_, rfl⟩
  have HL := Lib.hid hL
  obtain ⟨T, hT⟩ : ∃ n, n = ts.length := ⟨_, rfl⟩
  have HT := Lib.hid hT
  have HVL := Lib.hid (fun (W : World) (k : IRow W A l) => valid_any l A c wt W k)
  rw [← hL] at HVL ⊢
  rw [← hT] at hts ⊢
  have B0 := Lib.hid ((Below.refl w.heap.size w).alloc (Nat.le_refl _) (.cells #[.slice A L c, .int .i64 wt] 25))
  have J0 := Lib.hid (JBox.new (w := w) (A := A) (n := L) (c := c) (wt := wt) w.heap.size rfl)
  obtain ⟨b, hb⟩ : ∃ b, b = w.heap.size := ⟨_, rfl⟩
  clear h hL hp hm hT
  go_enter Try.func24, Try.ntmps24
  go_upto_region 1 with fail
  rw [← hb] at J0 ⊢
  generalize w.alloc (.cells #[.slice A L c, .int .i64 wt] 25) = w1 at *
  obtain ⟨j0, j1, jl⟩ := J0.out
  clear hb
  go_wp2_with fail
  refine (HVL.out w1 (H.out.below B0.out)).mono ?_
  rintro e w2 ⟨rfl, hB2⟩
  have J2 := Lib.hid (J0.out.below hB2 jl)
  have B2 := Lib.hid (B0.out.trans (hB2.mono B0.out.size))
  clear j0 j1 jl J0 B0 hB2 HVL
  obtain ⟨j0, j1, jl⟩ := J2.out
  by_cases he : validR l wt = 0
  · obtain ⟨p1, p2, p3⟩ := valid_ok he
    have HE := Lib.hid (show sortE l wt ts = (sortedB l ts, 0) from if_pos he)
    rw [he]
    rw [← HL.out] at p1
    clear he p2 p3
    have hmk := make_bools w2 L (by omega)
    have S0 := Lib.hid (BSet.new w2 (List.replicate L false) w2.heap.size rfl)
    have B3 := Lib.hid ((Below.refl w2.heap.size w2).alloc (Nat.le_refl _) (.cells ((List.replicate L false).map Value.bool).toArray 4))
    have Z0 := Lib.hid (show (List.replicate L false).length = l.length ∧ goT l 0 (List.replicate l.length false) ts = goT l 0 (List.replicate L false) ts from ⟨by rw [HL.out]; simp, by rw [HL.out]⟩)
    obtain ⟨g, hg⟩ : ∃ g, g = w2.heap.size := ⟨_, rfl⟩
    have HG := Lib.hid hg
    rw [← hg] at S0 hmk B3
    generalize w2.alloc (.cells ((List.replicate L false).map Value.bool).toArray 4) = w3 at *
    generalize List.replicate L false = s0 at *
    clear hg
    go_wp2_with fail
    go_loopw [23] (fun iv wr => ∃ (k : Nat) (s : List Bool), k ≤ T ∧ iv = .int .i64 (k : Int) ∧ Hid (BSet wr g s) ∧ Hid (s.length = l.length ∧ goT l 0 (List.replicate l.length false) ts = goT l (k : Int) s (ts.drop k)) ∧ Hid (Below g w2 wr)) (fun iv _ => T - (intOf iv).toNat)
    case atStart => exact ⟨0, s0, by omega, rfl, S0, Z0, B3⟩
    case round =>
      clear S0 Z0 B3 hmk j0 j1 jl
      obtain ⟨k, s, hk, rfl, S, Z, B⟩ := hrel
      have BW := Lib.hid (B2.out.trans ((show Below w2.heap.size w2 wr by rw [← HG.out]; exact B.out).mono B2.out.size))
      by_cases hlt : k < T
      · have hkt : k < ts.length := by rw [← HT.out]; exact hlt
        obtain ⟨pad, rfl, pbl, pa, qc, pcw, pr, pm⟩ := HP.out k _ (getD_ex [] hkt)
        have pcl := (BW.out.cell (p := pad.add k) (by rw [add_block]; exact pbl)).trans pcw
        clear pcw
        have Zd := Z.out.2
        rw [drop_any [] hkt] at Zd
        obtain ⟨p, hpp⟩ : ∃ p, p = ts.getD k [] := ⟨_, rfl⟩
        have HPP := Lib.hid hpp
        rw [← hpp] at pcl pr pm Zd
        have pm' : p.length ≤ 9223372036854775807 := pm
        have ZD := Lib.hid Zd
        have PRW := Lib.hid (show Row .i64 w w.heap.size pa p from pr)
        obtain ⟨N, hN⟩ : ∃ n, n = p.length := ⟨_, rfl⟩
        have HN := Lib.hid hN
        rw [← hN] at pcl pm'
        have I0 := Lib.hid (show Inn l (k : Int) s s p 0 from ⟨rfl, Z.out.1, fun y hy => by cases hy⟩)
        have HZL := Lib.hid Z.out.1
        clear hpp Zd pr pm hN Z hkt BW
        go_wp2_with fail
        clear pcl
        go_loopw [30] (fun iv wi => ∃ (n : Nat) (si : List Bool), n ≤ N ∧ iv = .int .i64 (n : Int) ∧ Hid (BSet wi g si) ∧ Hid (Inn l (k : Int) s si p n) ∧ Hid (Below g w2 wi)) (fun iv _ => N - (intOf iv).toNat)
        case atStart => exact ⟨0, s, by omega, rfl, S, I0, B⟩
        case round =>
          clear S B I0
          obtain ⟨n, si, hn, rfl, Si, I, Bi⟩ := hrel
          have BW := Lib.hid (B2.out.trans ((show Below w2.heap.size w2 wr by rw [← HG.out]; exact Bi.out).mono B2.out.size))
          by_cases hln : n < N
          · have hnp : n < p.length := by rw [← HN.out]; exact hln
            obtain ⟨pad2, rfl, _, cx⟩ := (PRW.out.below BW.out) n hnp
            obtain ⟨x, hx⟩ : ∃ x, x = p.getD n 0 := ⟨_, rfl⟩
            have HX := Lib.hid hx
            rw [← hx] at cx
            have J3 := J2.out.below Bi.out (by rw [HG.out]; exact J2.out.lt)
            obtain ⟨j0, j1, jl⟩ := J3
            have HIX := Lib.hid (fun (x : Int) (W : World) => index_any A L c x (by unfold maxLen; omega) W)
            have NO := Lib.hid (fun (hs : stepOk l (k : Int) (prv p n) si x = false) => show sortE l wt ts = (false, 0) from by
              rw [HE.out]
              rw [HX.out] at hs
              rw [sortedB_no (by rw [ZD.out, goT_no (I.out.no (by rw [← HN.out]; exact hln) hs)])])
            have hgw : g < wr.heap.size := Si.out.lt
            clear hx hnp
            cases hbx : btw x 0 ((L : Int) - 1)
            · have HR := Lib.hid (NO.out (step_index (by rw [← HL.out]; exact hbx)))
              go_wp2_with fail
              refine (HIX.out x _).mono ?_
              rintro e w4 ⟨rfl, hw4⟩
              rw [hw4, hbx]
              clear hw4
              go_wp2_with fail
              go_ret2
              exact ⟨ret_rb HR.out, BW.out⟩
            · obtain ⟨x1, x2⟩ := btw_iff.1 hbx
              obtain ⟨X, rfl⟩ := Int.eq_ofNat_of_zero_le x1
              have hXL : X < L := by omega
              have csn := Si.out.cell X (by rw [I.out.len, ← HL.out]; exact hXL)
              cases hsn : si.getD X false
              · rw [hsn] at csn
                obtain ⟨ad, rfl, c0, c1, _, _⟩ := (H.out.below BW.out).two (x := X) (y := X) (by rw [← HL.out]; exact hXL) (by rw [← HL.out]; exact hXL)
                have hXL' : (X : Int) < (L : Int) := by omega
                have HBX := Lib.hid (show btw (X : Int) 0 ((l.length : Int) - 1) = true by rw [← HL.out]; exact hbx)
                have HSN := Lib.hid hsn
                by_cases ht : trn l X = (k : Int)
                · have htn : (trn l X != (k : Int)) = false := by simpa using ht
                  have fz := Si.out.frozen X
                  have S2 := Lib.hid (Si.out.set X true)
                  have B4 := Lib.hid (Bi.out.setCell (p := ⟨g, X, none⟩) (Nat.le_refl g) (.bool true))
                  have OK := Lib.hid (fun (hs : stepOk l (k : Int) (prv p n) si (X : Int) = true) => show Inn l (k : Int) s (si.set X true) p (n + 1) from by
                    have := I.out.ok (by rw [← HN.out]; exact hln) (by rw [← HX.out]; exact HBX.out) (by rw [← HX.out]; exact hs)
                    rwa [← HX.out] at this)
                  have HTK := Lib.hid ht
                  clear hsn ht
                  cases n with
                  | zero =>
                    have e0 : pad2.add 0 = pad2 := by unfold Addr.add; rw [if_pos rfl]
                    rw [e0] at cx
                    have I2 := Lib.hid (OK.out (step_first HBX.out HSN.out HTK.out))
                    clear e0
                    go_wp2_with fail
                    refine (HIX.out X _).mono ?_
                    rintro e w4 ⟨rfl, hw4⟩
                    rw [hw4, hbx]
                    clear hw4
                    go_wp2_with fail
                    go_quiet (fail)
                    go_wp2_with fail
                    go_roundw
                    case rel => exact ⟨0 + 1, si.set X true, by omega, by go_num, Lib.hid (S2.out.drewN _), I2, Lib.hid (bdn B4.out)⟩
                    case measure => simp [intOf]; omega
                  | succ m =>
                    have hng : (0 : Int) < (m : Int) + 1 := by omega
                    rw [add_sc] at cx
                    obtain ⟨_, e', _, cy⟩ := (PRW.out.below BW.out) m (by rw [← HN.out]; omega)
                    obtain rfl : pad2 = _ := by injection e'
                    have hyb := I.out.prev _ (prv_succ p m)
                    obtain ⟨y, hy⟩ : ∃ y, y = p.getD m 0 := ⟨_, rfl⟩
                    have HPV := Lib.hid (show prv p (m + 1) = some y by rw [hy]; rfl)
                    rw [← hy] at cy hyb
                    rw [← HL.out] at hyb
                    obtain ⟨y1, y2⟩ := btw_iff.1 hyb
                    obtain ⟨Y, rfl⟩ := Int.eq_ofNat_of_zero_le y1
                    have hYL : Y < L := by omega
                    have hYL' : (Y : Int) < (L : Int) := by omega
                    obtain ⟨_, e2, d0, d1, _, _⟩ := (H.out.below BW.out).two (x := Y) (y := Y) (by rw [← HL.out]; exact hYL) (by rw [← HL.out]; exact hYL)
                    obtain rfl : ad = _ := by injection e2
                    have hm1 : (m : Int) < (N : Int) := by omega
                    have hm0 : (0 : Int) ≤ (m : Int) := by omega
                    have NX := Lib.hid (show stepOk l (k : Int) (prv p (m + 1)) si (X : Int) = !decide (blk l X < blk l Y) by rw [HPV.out]; exact step_next HBX.out HSN.out HTK.out)
                    clear hy hyb y1 e' e2
                    generalize blk l X = bx at *
                    generalize blk l Y = bY at *
                    by_cases hlt2 : bx < bY
                    · have HR := Lib.hid (NO.out (by rw [NX.out, decide_eq_true hlt2]; rfl))
                      go_wp2_with fail
                      refine (HIX.out X _).mono ?_
                      rintro e w4 ⟨rfl, hw4⟩
                      rw [hw4, hbx]
                      clear hw4
                      go_wp2_with fail
                      go_quiet (fail)
                      go_wp2_with fail
                      go_ret2
                      exact ⟨ret_rb HR.out, bdn BW.out⟩
                    · have I2 := Lib.hid (OK.out (by rw [NX.out, decide_eq_false hlt2]; rfl))
                      go_wp2_with fail
                      refine (HIX.out X _).mono ?_
                      rintro e w4 ⟨rfl, hw4⟩
                      rw [hw4, hbx]
                      clear hw4
                      go_wp2_with fail
                      go_quiet (fail)
                      go_wp2_with fail
                      go_roundw
                      case rel => exact ⟨m + 1 + 1, si.set X true, by omega, by go_num, Lib.hid (S2.out.drewN _), I2, Lib.hid (bdn B4.out)⟩
                      case measure => simp [intOf]; omega
                · have htn : (trn l X != (k : Int)) = true := by simpa using ht
                  have HR := Lib.hid (NO.out (step_train ht))
                  go_wp2_with fail
                  refine (HIX.out X _).mono ?_
                  rintro e w4 ⟨rfl, hw4⟩
                  rw [hw4, hbx]
                  clear hw4
                  go_wp2_with fail
                  go_ret2
                  exact ⟨ret_rb HR.out, BW.out⟩
              · have HR := Lib.hid (NO.out (step_seen hsn))
                rw [hsn] at csn
                have hXL' : (X : Int) < (L : Int) := by omega
                go_wp2_with fail
                refine (HIX.out X _).mono ?_
                rintro e w4 ⟨rfl, hw4⟩
                rw [hw4, hbx]
                clear hw4
                go_wp2_with fail
                go_ret2
                exact ⟨ret_rb HR.out, BW.out⟩
          · obtain rfl : n = N := by omega
            have Z2 := Lib.hid (show si.length = l.length ∧ goT l 0 (List.replicate l.length false) ts = goT l ((k : Int) + 1) si (ts.drop (k + 1)) from ⟨I.out.len, by
              rw [ZD.out]
              refine goT_ok ?_
              rw [I.out.eq, HN.out, List.drop_length]; rfl⟩)
            clear I hln
            go_wp2_with fail
            go_roundw
            case rel => exact ⟨k + 1, si, by omega, by go_num, Si, Z2, Bi⟩
            case measure => simp [intOf]; omega
      · obtain rfl : k = T := by omega
        have HR := Lib.hid (show sortE l wt ts = (!hasF s, 0) from by
          rw [HE.out, sortedB_some (by rw [Z.out.2, HT.out, List.drop_length]; rfl)])
        have HF := hasFalse_any s g L wr S.out (by rw [Z.out.1, ← HL.out]; unfold maxLen; omega)
        rw [Z.out.1, ← HL.out] at HF
        have HF := Lib.hid HF
        clear Z hlt
        go_wp2_with fail
        refine HF.out.mono ?_
        rintro e w4 ⟨rfl, hw4⟩
        rw [hw4]
        clear hw4
        go_wp2_with fail
        go_ret2
        exact ⟨ret_rb HR.out, BW.out⟩
  · have HE := Lib.hid (show sortE l wt ts = (false, validR l wt) from if_neg he)
    have hne : (validR l wt != 0) = true := bne_iff_ne.2 he
    clear he
    go_wp2_with fail
    go_ret2
    exact ⟨ret_rb HE.out, B2.out⟩
end Go.Proofs.Ytpimdcljecipeaa
