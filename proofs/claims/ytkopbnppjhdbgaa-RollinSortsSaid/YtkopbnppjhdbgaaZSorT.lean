/-
  JSrt, ZSoP, ZSorA, ZSorW.
-/
import Derived.Test.YtkopbnppjhdbgaaJSet
import Derived.Test.YtkopbnppjhdbgaaZB
import Derived.Test.YtkopbnppjhdbgaaJRef2
import Derived.Test.YtkopbnppjhdbgaaZPusP
set_option linter.unusedSimpArgs false
set_option linter.unusedVariables false
namespace Go.Proofs.Ytkopbnppjhdbgaa
open Go.RowKit Go.Lib

def sortE (l : List It) (wt : Int) (ts : List (List Int)) : Bool × Int := if validR l wt = 0 then (sortedB l ts, 0) else (false, validR l wt)
abbrev RB (t : Bool × Int) : Value := .tuple #[.bool t.1, .int .i64 t.2]
theorem ret_rb {a : Bool} {b : Int} {t : Bool × Int} (h : t = (a, b)) : Ending.returned (.tuple #[.bool a, .int .i64 b]) = .returned (RB t) := by rw [h]
theorem goT_no {l : List It} {t : Int} {s : List Bool} {p : List Int} {r : List (List Int)} (h : goL l t none s p = none) : goT l t s (p :: r) = none := by
  show (match goL l t none s p with | none => none | some s => goT l (t + 1) s r) = none
  rw [h]
theorem goT_ok {l : List It} {t : Int} {s s' : List Bool} {p : List Int} {r : List (List Int)} (h : goL l t none s p = some s') : goT l t s (p :: r) = goT l (t + 1) s' r := by
  show (match goL l t none s p with | none => none | some s => goT l (t + 1) s r) = _
  rw [h]
theorem sortedB_no {l : List It} {ts : List (List Int)} (h : goT l 0 (List.replicate l.length false) ts = none) : sortedB l ts = false := by
  unfold sortedB; rw [h]
theorem sortedB_some {l : List It} {ts : List (List Int)} {s : List Bool} (h : goT l 0 (List.replicate l.length false) ts = some s) : sortedB l ts = !hasF s := by
  unfold sortedB; rw [h]
theorem prvS_succ (p : List Int) (n : Nat) : prvS p (n + 1) = some (p.getD n 0) := rfl
theorem step_index {l : List It} {t : Int} {prev : Option Int} {s : List Bool} {x : Int} (h : btw x 0 ((l.length : Int) - 1) = false) : stepOk l t prev s x = false := by
  unfold stepOk; rw [h]; rfl
theorem step_seen {l : List It} {t : Int} {prev : Option Int} {s : List Bool} {x : Int} (h : s.getD x.toNat false = true) : stepOk l t prev s x = false := by
  unfold stepOk; rw [h]; simp
theorem step_train {l : List It} {t : Int} {prev : Option Int} {s : List Bool} {x : Int} (h : trn l x.toNat ≠ t) : stepOk l t prev s x = false := by
  unfold stepOk; rw [decide_eq_false h]; simp
theorem step_first {l : List It} {t : Int} {s : List Bool} {x : Int} (h1 : btw x 0 ((l.length : Int) - 1) = true) (h2 : s.getD x.toNat false = false) (h3 : trn l x.toNat = t) : stepOk l t none s x = true := by
  unfold stepOk; rw [h1, h2, decide_eq_true h3]; rfl
theorem step_next {l : List It} {t : Int} {s : List Bool} {x y : Int} (h1 : btw x 0 ((l.length : Int) - 1) = true) (h2 : s.getD x.toNat false = false) (h3 : trn l x.toNat = t) : stepOk l t (some y) s x = !decide (blk l x.toNat < blk l y.toNat) := by
  unfold stepOk; rw [h1, h2, decide_eq_true h3]; rfl
/-- What is known while a list is read. -/
structure Inn (l : List It) (t : Int) (s0 s : List Bool) (p : List Int) (n : Nat) : Prop where
  eq : goL l t none s0 p = goL l t (prvS p n) s (p.drop n)
  len : s.length = l.length
  prev : ∀ y, prvS p n = some y → btw y 0 ((l.length : Int) - 1) = true
theorem Inn.ok {l : List It} {t : Int} {s0 s : List Bool} {p : List Int} {n : Nat} (h : Inn l t s0 s p n) (hn : n < p.length) (hx : btw (p.getD n 0) 0 ((l.length : Int) - 1) = true) (hs : stepOk l t (prvS p n) s (p.getD n 0) = true) : Inn l t s0 (s.set (p.getD n 0).toNat true) p (n + 1) := by
  refine ⟨?_, by rw [List.length_set]; exact h.len, fun y hy => ?_⟩
  · rw [h.eq, drop_any 0 hn, goL_ok hs]; rfl
  · rw [prvS_succ] at hy; injection hy with hy; rw [← hy]; exact hx
theorem Inn.no {l : List It} {t : Int} {s0 s : List Bool} {p : List Int} {n : Nat} (h : Inn l t s0 s p n) (hn : n < p.length) (hs : stepOk l t (prvS p n) s (p.getD n 0) = false) : goL l t none s0 p = none := by
  rw [h.eq, drop_any 0 hn, goL_no hs]
set_option maxRecDepth 100000 in
set_option maxHeartbeats 3200000 in
theorem sorted_any (l : List It) (A : Option Addr) (c : Nat) (wt : Int) (ts : List (List Int)) (P : Option Addr) (pc : Nat) (w : World) (h : IRow w A l) (hp : PP w P ts) (hm : ts.length ≤ maxLen) :
    Calls Try.prog 25 #[jv A l.length c wt, .slice P ts.length pc] w fun e w' => e = .returned (RB (sortE l wt ts)) ∧ Below w.heap.size w w' := by
  have H := Lib.hid h
  have HP := Lib.hid hp
  have hts : ts.length ≤ 9223372036854775807 := hm
  obtain ⟨L, hL⟩ : ∃ n, n = l.length := ⟨_, rfl⟩
  have HL := Lib.hid hL
  obtain ⟨T, hT⟩ : ∃ n, n = ts.length := ⟨_, rfl⟩
  have HT := Lib.hid hT
  have HVL := Lib.hid (fun (W : World) (k : IRow W A l) => valid_any l A c wt W k)
  rw [← hL] at HVL ⊢
  rw [← hT] at hts ⊢
  have B0 := Lib.hid ((Below.refl w.heap.size w).alloc (Nat.le_refl _) (.cells #[.slice A L c, .int .i64 wt] 24))
  have J0 := Lib.hid (JBox.new (w := w) (A := A) (n := L) (c := c) (wt := wt) w.heap.size rfl)
  obtain ⟨b, hb⟩ : ∃ b, b = w.heap.size := ⟨_, rfl⟩
  clear h hL hp hm hT
  go_enter Try.func25, Try.ntmps25
  go_upto_region 1 with fail
  rw [← hb] at J0 ⊢
  generalize w.alloc (.cells #[.slice A L c, .int .i64 wt] 24) = w1 at *
  obtain ⟨j0, j1, jl⟩ := J0.out
  clear hb
  go_wp2_with fail
  refine (HVL.out w1 (H.out.below B0.out)).mono ?_
  rintro e w2 ⟨rfl, hB2⟩
  have J2 := Lib.hid (J0.out.below hB2 jl)
  have B2 := Lib.hid (B0.out.trans (hB2.mono B0.out.size))
  clear j0 j1 jl J0 B0 hB2 HVL
  obtain ⟨j0, j1, jl⟩ := J2.out
  by_cases he : validR l wt = 0
  · obtain ⟨p1, p2, p3⟩ := valid_ok he
    have HE := Lib.hid (show sortE l wt ts = (sortedB l ts, 0) from if_pos he)
    rw [he]
    rw [← HL.out] at p1
    clear he p2 p3
    have hmk := make_bools w2 L (by omega)
    have S0 := Lib.hid (BSet.new w2 (List.replicate L false) w2.heap.size rfl)
    have B3 := Lib.hid ((Below.refl w2.heap.size w2).alloc (Nat.le_refl _) (.cells ((List.replicate L false).map Value.bool).toArray 4))
    have Z0 := Lib.hid (show (List.replicate L false).length = l.length ∧ goT l 0 (List.replicate l.length false) ts = goT l 0 (List.replicate L false) ts from ⟨by rw [HL.out]; simp, by rw [HL.out]⟩)
    obtain ⟨g, hg⟩ : ∃ g, g = w2.heap.size := ⟨_, rfl⟩
    have HG := Lib.hid hg
    rw [← hg] at S0 hmk B3
    generalize w2.alloc (.cells ((List.replicate L false).map Value.bool).toArray 4) = w3 at *
    generalize List.replicate L false = s0 at *
    clear hg
    go_wp2_with fail
    go_loopw [23] (fun iv wr => ∃ (k : Nat) (s : List Bool), k ≤ T ∧ iv = .int .i64 (k : Int) ∧ Hid (BSet wr g s) ∧ Hid (s.length = l.length ∧ goT l 0 (List.replicate l.length false) ts = goT l (k : Int) s (ts.drop k)) ∧ Hid (Below g w2 wr)) (fun iv _ => T - (intOf iv).toNat)
    case atStart => exact ⟨0, s0, by omega, rfl, S0, Z0, B3⟩
    case round =>
      clear S0 Z0 B3 hmk j0 j1 jl
      obtain ⟨k, s, hk, rfl, S, Z, B⟩ := hrel
      have BW := Lib.hid (B2.out.trans ((show Below w2.heap.size w2 wr by rw [← HG.out]; exact B.out).mono B2.out.size))
      by_cases hlt : k < T
      · have hkt : k < ts.length := by rw [← HT.out]; exact hlt
        obtain ⟨pad, rfl, pbl, pa, qc, pcw, pr, pm⟩ := HP.out k _ (getD_ex [] hkt)
        have pcl := (BW.out.cell (p := pad.add k) (by rw [add_block]; exact pbl)).trans pcw
        clear pcw
        have Zd := Z.out.2
        rw [drop_any [] hkt] at Zd
        obtain ⟨p, hpp⟩ : ∃ p, p = ts.getD k [] := ⟨_, rfl⟩
        have HPP := Lib.hid hpp
        rw [← hpp] at pcl pr pm Zd
        have pm' : p.length ≤ 9223372036854775807 := pm
        have ZD := Lib.hid Zd
        have PRW := Lib.hid (show Row .i64 w w.heap.size pa p from pr)
        obtain ⟨N, hN⟩ : ∃ n, n = p.length := ⟨_, rfl⟩
        have HN := Lib.hid hN
        rw [← hN] at pcl pm'
        have I0 := Lib.hid (show Inn l (k : Int) s s p 0 from ⟨rfl, Z.out.1, fun y hy => by cases hy⟩)
        have HZL := Lib.hid Z.out.1
        clear hpp Zd pr pm hN Z hkt BW
        go_wp2_with fail
        clear pcl
        go_loopw [30] (fun iv wi => ∃ (n : Nat) (si : List Bool), n ≤ N ∧ iv = .int .i64 (n : Int) ∧ Hid (BSet wi g si) ∧ Hid (Inn l (k : Int) s si p n) ∧ Hid (Below g w2 wi)) (fun iv _ => N - (intOf iv).toNat)
        case atStart => exact ⟨0, s, by omega, rfl, S, I0, B⟩
        case round =>
          clear S B I0
          obtain ⟨n, si, hn, rfl, Si, I, Bi⟩ := hrel
          have BW := Lib.hid (B2.out.trans ((show Below w2.heap.size w2 wr by rw [← HG.out]; exact Bi.out).mono B2.out.size))
          by_cases hln : n < N
          · have hnp : n < p.length := by rw [← HN.out]; exact hln
            obtain ⟨pad2, rfl, _, cx⟩ := (PRW.out.below BW.out) n hnp
            obtain ⟨x, hx⟩ : ∃ x, x = p.getD n 0 := ⟨_, rfl⟩
            have HX := Lib.hid hx
            rw [← hx] at cx
            have J3 := J2.out.below Bi.out (by rw [HG.out]; exact J2.out.lt)
            obtain ⟨j0, j1, jl⟩ := J3
            have HIX := Lib.hid (fun (x : Int) (W : World) => index_any A L c x (by unfold maxLen; omega) W)
            have NO := Lib.hid (fun (hs : stepOk l (k : Int) (prvS p n) si x = false) => show sortE l wt ts = (false, 0) from by
              rw [HE.out]
              rw [HX.out] at hs
              rw [sortedB_no (by rw [ZD.out, goT_no (I.out.no (by rw [← HN.out]; exact hln) hs)])])
            have hgw : g < wr.heap.size := Si.out.lt
            clear hx hnp
            cases hbx : btw x 0 ((L : Int) - 1)
            · have HR := Lib.hid (NO.out (step_index (by rw [← HL.out]; exact hbx)))
              go_wp2_with fail
              refine (HIX.out x _).mono ?_
              rintro e w4 ⟨rfl, hw4⟩
              rw [hw4, hbx]
              clear hw4
              go_wp2_with fail
              go_ret2
              exact ⟨ret_rb HR.out, BW.out⟩
            · obtain ⟨x1, x2⟩ := btw_iff.1 hbx
              obtain ⟨X, rfl⟩ := Int.eq_ofNat_of_zero_le x1
              have hXL : X < L := by omega
              have csn := Si.out.cell X (by rw [I.out.len, ← HL.out]; exact hXL)
              cases hsn : si.getD X false
              · rw [hsn] at csn
                obtain ⟨ad, rfl, c0, c1, _, _⟩ := (H.out.below BW.out).two (x := X) (y := X) (by rw [← HL.out]; exact hXL) (by rw [← HL.out]; exact hXL)
                have hXL' : (X : Int) < (L : Int) := by omega
                have HBX := Lib.hid (show btw (X : Int) 0 ((l.length : Int) - 1) = true by rw [← HL.out]; exact hbx)
                have HSN := Lib.hid hsn
                by_cases ht : trn l X = (k : Int)
                · have htn : (trn l X != (k : Int)) = false := by simpa using ht
                  have fz := Si.out.frozen X
                  have S2 := Lib.hid (Si.out.set X true)
                  have B4 := Lib.hid (Bi.out.setCell (p := ⟨g, X, none⟩) (Nat.le_refl g) (.bool true))
                  have OK := Lib.hid (fun (hs : stepOk l (k : Int) (prvS p n) si (X : Int) = true) => show Inn l (k : Int) s (si.set X true) p (n + 1) from by
                    have := I.out.ok (by rw [← HN.out]; exact hln) (by rw [← HX.out]; exact HBX.out) (by rw [← HX.out]; exact hs)
                    rwa [← HX.out] at this)
                  have HTK := Lib.hid ht
                  clear hsn ht
                  cases n with
                  | zero =>
                    have e0 : pad2.add 0 = pad2 := by unfold Addr.add; rw [if_pos rfl]
                    rw [e0] at cx
                    have I2 := Lib.hid (OK.out (step_first HBX.out HSN.out HTK.out))
                    clear e0
                    go_wp2_with fail
                    refine (HIX.out X _).mono ?_
                    rintro e w4 ⟨rfl, hw4⟩
                    rw [hw4, hbx]
                    clear hw4
                    go_wp2_with fail
                    go_quiet (fail)
                    go_wp2_with fail
                    go_roundw
                    case rel => exact ⟨0 + 1, si.set X true, by omega, by go_num, Lib.hid (S2.out.drewN _), I2, Lib.hid (bdn B4.out)⟩
                    case measure => simp [intOf]; omega
                  | succ m =>
                    have hng : (0 : Int) < (m : Int) + 1 := by omega
                    rw [add_sc] at cx
                    obtain ⟨_, e', _, cy⟩ := (PRW.out.below BW.out) m (by rw [← HN.out]; omega)
                    obtain rfl : pad2 = _ := by injection e'
                    have hyb := I.out.prev _ (prvS_succ p m)
                    obtain ⟨y, hy⟩ : ∃ y, y = p.getD m 0 := ⟨_, rfl⟩
                    have HPV := Lib.hid (show prvS p (m + 1) = some y by rw [hy]; rfl)
                    rw [← hy] at cy hyb
                    rw [← HL.out] at hyb
                    obtain ⟨y1, y2⟩ := btw_iff.1 hyb
                    obtain ⟨Y, rfl⟩ := Int.eq_ofNat_of_zero_le y1
                    have hYL : Y < L := by omega
                    have hYL' : (Y : Int) < (L : Int) := by omega
                    obtain ⟨_, e2, d0, d1, _, _⟩ := (H.out.below BW.out).two (x := Y) (y := Y) (by rw [← HL.out]; exact hYL) (by rw [← HL.out]; exact hYL)
                    obtain rfl : ad = _ := by injection e2
                    have hm1 : (m : Int) < (N : Int) := by omega
                    have hm0 : (0 : Int) ≤ (m : Int) := by omega
                    have NX := Lib.hid (show stepOk l (k : Int) (prvS p (m + 1)) si (X : Int) = !decide (blk l X < blk l Y) by rw [HPV.out]; exact step_next HBX.out HSN.out HTK.out)
                    clear hy hyb y1 e' e2
                    generalize blk l X = bx at *
                    generalize blk l Y = bY at *
                    by_cases hlt2 : bx < bY
                    · have HR := Lib.hid (NO.out (by rw [NX.out, decide_eq_true hlt2]; rfl))
                      go_wp2_with fail
                      refine (HIX.out X _).mono ?_
                      rintro e w4 ⟨rfl, hw4⟩
                      rw [hw4, hbx]
                      clear hw4
                      go_wp2_with fail
                      go_quiet (fail)
                      go_wp2_with fail
                      go_ret2
                      exact ⟨ret_rb HR.out, bdn BW.out⟩
                    · have I2 := Lib.hid (OK.out (by rw [NX.out, decide_eq_false hlt2]; rfl))
                      go_wp2_with fail
                      refine (HIX.out X _).mono ?_
                      rintro e w4 ⟨rfl, hw4⟩
                      rw [hw4, hbx]
                      clear hw4
                      go_wp2_with fail
                      go_quiet (fail)
                      go_wp2_with fail
                      go_roundw
                      case rel => exact ⟨m + 1 + 1, si.set X true, by omega, by go_num, Lib.hid (S2.out.drewN _), I2, Lib.hid (bdn B4.out)⟩
                      case measure => simp [intOf]; omega
                · have htn : (trn l X != (k : Int)) = true := by simpa using ht
                  have HR := Lib.hid (NO.out (step_train ht))
                  go_wp2_with fail
                  refine (HIX.out X _).mono ?_
                  rintro e w4 ⟨rfl, hw4⟩
                  rw [hw4, hbx]
                  clear hw4
                  go_wp2_with fail
                  go_ret2
                  exact ⟨ret_rb HR.out, BW.out⟩
              · have HR := Lib.hid (NO.out (step_seen hsn))
                rw [hsn] at csn
                have hXL' : (X : Int) < (L : Int) := by omega
                go_wp2_with fail
                refine (HIX.out X _).mono ?_
                rintro e w4 ⟨rfl, hw4⟩
                rw [hw4, hbx]
                clear hw4
                go_wp2_with fail
                go_ret2
                exact ⟨ret_rb HR.out, BW.out⟩
          · obtain rfl : n = N := by omega
            have Z2 := Lib.hid (show si.length = l.length ∧ goT l 0 (List.replicate l.length false) ts = goT l ((k : Int) + 1) si (ts.drop (k + 1)) from ⟨I.out.len, by
              rw [ZD.out]
              refine goT_ok ?_
              rw [I.out.eq, HN.out, List.drop_length]; rfl⟩)
            clear I hln
            go_wp2_with fail
            go_roundw
            case rel => exact ⟨k + 1, si, by omega, by go_num, Si, Z2, Bi⟩
            case measure => simp [intOf]; omega
      · obtain rfl : k = T := by omega
        have HR := Lib.hid (show sortE l wt ts = (!hasF s, 0) from by
          rw [HE.out, sortedB_some (by rw [Z.out.2, HT.out, List.drop_length]; rfl)])
        have HF := hasFalse_any s g L wr S.out (by rw [Z.out.1, ← HL.out]; unfold maxLen; omega)
        rw [Z.out.1, ← HL.out] at HF
        have HF := Lib.hid HF
        clear Z hlt
        go_wp2_with fail
        refine HF.out.mono ?_
        rintro e w4 ⟨rfl, hw4⟩
        rw [hw4]
        clear hw4
        go_wp2_with fail
        go_ret2
        exact ⟨ret_rb HR.out, BW.out⟩
  · have HE := Lib.hid (show sortE l wt ts = (false, validR l wt) from if_neg he)
    have hne : (validR l wt != 0) = true := bne_iff_ne.2 he
    clear he
    go_wp2_with fail
    go_ret2
    exact ⟨ret_rb HE.out, B2.out⟩
end Go.Proofs.Ytkopbnppjhdbgaa

namespace Go.Proofs.Ytkopbnppjhdbgaa
open Go.RowKit Go.Lib

/-- What is seen behind a list. -/
def mark (s : List Bool) : List Nat → List Bool
  | [] => s
  | x :: p => mark (s.set x true) p
theorem mark_len (s : List Bool) (p : List Nat) : (mark s p).length = s.length := by
  induction p generalizing s with
  | nil => rfl
  | cons x p ih => show (mark (s.set x true) p).length = _; rw [ih, List.length_set]
theorem set_get (s : List Bool) (x j : Nat) (hx : x < s.length) : (s.set x true).getD j false = (s.getD j false || decide (j = x)) := by
  rw [List.getD_eq_getElem?_getD, List.getElem?_set]
  by_cases e : x = j
  · subst e; simp [hx]
  · rw [if_neg e, ← List.getD_eq_getElem?_getD]; simp [Ne.symm e]
theorem mark_get {s : List Bool} {p : List Nat} (hp : ∀ x ∈ p, x < s.length) (j : Nat) : (mark s p).getD j false = (s.getD j false || decide (j ∈ p)) := by
  induction p generalizing s with
  | nil => simp [mark]
  | cons x p ih =>
    show (mark (s.set x true) p).getD j false = _
    rw [ih (fun y hy => by rw [List.length_set]; exact hp y (List.mem_cons_of_mem _ hy)), set_get s x j (hp x (List.mem_cons_self ..))]
    by_cases h1 : j = x <;> by_cases h2 : j ∈ p <;> simp [h1, h2]
/-- A good list of train t. -/
structure GoodT (l : List It) (t : Int) (p : List Nat) : Prop where
  mem : ∀ x ∈ p, x < l.length ∧ trn l x = t
  asc : p.Pairwise fun x y => blk l x ≤ blk l y
  nod : p.Nodup
theorem goL_good {l : List It} {t : Int} {p : List Nat} (h : GoodT l t p) {prev : Option Int} {s : List Bool} (hs : s.length = l.length) (hf : ∀ x ∈ p, s.getD x false = false)
    (hp : ∀ y, prev = some y → ∀ x ∈ p, blk l y.toNat ≤ blk l x) : goL l t prev s (toZ p) = some (mark s p) := by
  induction p generalizing prev s with
  | nil => rfl
  | cons x p ih =>
    obtain ⟨hx, ht⟩ := h.mem x (List.mem_cons_self ..)
    have hnx := (List.nodup_cons.1 h.nod)
    have hax := (List.pairwise_cons.1 h.asc)
    have ok : stepOk l t prev s (x : Int) = true := by
      have h1 : btw (x : Int) 0 ((l.length : Int) - 1) = true := btw_iff.2 (by omega)
      have h2 : s.getD (x : Int).toNat false = false := hf x (List.mem_cons_self ..)
      have h3 : trn l (x : Int).toNat = t := ht
      cases prev with
      | none => exact step_first h1 h2 h3
      | some y =>
        rw [step_next h1 h2 h3]
        have h4 : blk l y.toNat ≤ blk l (x : Int).toNat := hp y rfl x (List.mem_cons_self ..)
        rw [decide_eq_false (by omega)]; rfl
    show goL l t prev s ((x : Int) :: toZ p) = _
    rw [goL_ok ok]
    show goL l t (some (x : Int)) (s.set x true) (toZ p) = some (mark (s.set x true) p)
    refine ih ⟨fun y hy => h.mem y (List.mem_cons_of_mem _ hy), hax.2, hnx.2⟩ (by rw [List.length_set]; exact hs) (fun y hy => ?_) (fun y hy z hz => ?_)
    · rw [set_get s x y (by rw [hs]; exact hx), hf y (List.mem_cons_of_mem _ hy)]
      have : y ≠ x := fun e => hnx.1 (e ▸ hy)
      simp [this]
    · injection hy with hy
      subst hy
      exact hax.1 z hz
/-- Two neighbours that fall. -/
theorem goL_fall {l : List It} {t : Int} {a b : Nat} {pre post : List Nat} (h : blk l a < blk l b) {prev : Option Int} {s : List Bool} : goL l t prev s (toZ (pre ++ b :: a :: post)) = none := by
  induction pre generalizing prev s with
  | nil =>
    show goL l t prev s ((b : Int) :: (a : Int) :: toZ post) = none
    cases h1 : stepOk l t prev s (b : Int) with
    | false => exact goL_no h1
    | true =>
      rw [goL_ok h1]
      refine goL_no ?_
      unfold stepOk
      have : decide (blk l (a : Int).toNat < blk l (b : Int).toNat) = true := decide_eq_true h
      show (_ && (!decide (blk l (a : Int).toNat < blk l (b : Int).toNat))) = false
      rw [this]; simp
  | cons x pre ih =>
    show goL l t prev s ((x : Int) :: toZ (pre ++ b :: a :: post)) = none
    cases h1 : stepOk l t prev s (x : Int) with
    | false => exact goL_no h1
    | true => rw [goL_ok h1]; exact ih
/-- What is seen behind the lists. -/
def markT (s : List Bool) : List (List Nat) → List Bool
  | [] => s
  | p :: r => markT (mark s p) r
theorem goT_good {l : List It} {ts : List (List Nat)} : ∀ (t : Int) (s : List Bool), (∀ (k : Nat) p, ts[k]? = some p → GoodT l (t + k) p ∧ ∀ x ∈ p, s.getD x false = false) → s.length = l.length → goT l t s (ts.map toZ) = some (markT s ts) := by
  induction ts with
  | nil => intro t s _ _; rfl
  | cons p r ih =>
    intro t s h hs
    obtain ⟨g, hf⟩ := h 0 p rfl
    have g' : GoodT l t p := by have := g; rwa [show t + ((0 : Nat) : Int) = t by omega] at this
    have e := goL_good g' hs hf (prev := none) (fun y hy => by cases hy)
    show goT l t s (toZ p :: r.map toZ) = some (markT (mark s p) r)
    rw [goT_ok e]
    refine ih (t + 1) (mark s p) (fun k q hq => ?_) (by rw [mark_len]; exact hs)
    obtain ⟨g2, hf2⟩ := h (k + 1) q hq
    have e2 : t + ((k + 1 : Nat) : Int) = t + 1 + (k : Int) := by omega
    rw [e2] at g2
    refine ⟨g2, fun x hx => ?_⟩
    rw [mark_get (fun y hy => by rw [hs]; exact (g'.mem y hy).1), hf2 x hx]
    have : x ∉ p := fun hxp => by
      have h1 := (g'.mem x hxp).2
      have h2 := (g2.mem x hx).2
      omega
    simp [this]
theorem goT_fall {l : List It} {ts : List (List Int)} {k : Nat} {q : List Int} (hq : ts[k]? = some q) (hn : ∀ t s, goL l t none s q = none) : ∀ (t : Int) (s : List Bool), goT l t s ts = none := by
  induction ts generalizing k with
  | nil => simp at hq
  | cons p r ih =>
    intro t s
    cases k with
    | zero =>
      injection hq with hq
      subst hq
      exact goT_no (hn t s)
    | succ k =>
      cases h1 : goL l t none s p with
      | none => exact goT_no h1
      | some s' => rw [goT_ok h1]; exact ih hq (t + 1) s'
theorem markT_get {ts : List (List Nat)} : ∀ (s : List Bool), (∀ p ∈ ts, ∀ x ∈ p, x < s.length) → ∀ j, (markT s ts).getD j false = (s.getD j false || decide (∃ p ∈ ts, j ∈ p)) := by
  induction ts with
  | nil => intro s _ j; simp [markT]
  | cons p r ih =>
    intro s h j
    show (markT (mark s p) r).getD j false = _
    rw [ih (mark s p) (fun q hq x hx => by rw [mark_len]; exact h q (List.mem_cons_of_mem _ hq) x hx) j, mark_get (h p (List.mem_cons_self ..))]
    rw [Bool.eq_iff_iff]
    simp only [Bool.or_eq_true, decide_eq_true_eq, List.mem_cons, exists_eq_or_imp]
    exact or_assoc
theorem markT_len (s : List Bool) (ts : List (List Nat)) : (markT s ts).length = s.length := by
  induction ts generalizing s with
  | nil => rfl
  | cons p r ih => show (markT (mark s p) r).length = _; rw [ih, mark_len]
/-- GoodT lists that hold each item are sorted. -/
theorem sorted_good {l : List It} {ts : List (List Nat)} (h : ∀ (k : Nat) p, ts[k]? = some p → GoodT l (k : Int) p) (hall : ∀ x, x < l.length → ∃ p ∈ ts, x ∈ p) : sortedB l (ts.map toZ) = true := by
  have hr : ∀ j, (List.replicate l.length false).getD j false = false := fun j => by
    rw [List.getD_eq_getElem?_getD, List.getElem?_replicate]; split <;> rfl
  have e := goT_good (l := l) (ts := ts) 0 (List.replicate l.length false) (fun k p hp => ⟨by rw [Int.zero_add]; exact h k p hp, fun x _ => hr x⟩) (by simp)
  rw [sortedB_some e]
  have hf : hasF (markT (List.replicate l.length false) ts) = false := by
    unfold hasF
    rw [Bool.eq_false_iff]
    intro hc
    rw [List.contains_iff_mem] at hc
    obtain ⟨i, hi⟩ := List.mem_iff_getElem?.1 hc
    have hil := (List.getElem?_eq_some_iff.1 hi).1
    rw [markT_len, List.length_replicate] at hil
    have h1 := markT_get (ts := ts) (List.replicate l.length false) (fun p hp x hx => by
      obtain ⟨k, hk⟩ := List.mem_iff_getElem?.1 hp
      rw [List.length_replicate]
      exact ((h k p hk).mem x hx).1) i
    rw [List.getD_eq_getElem?_getD, hi, hr, decide_eq_true (hall i hil)] at h1
    cases h1
  rw [hf]; rfl
theorem sorted_fall {l : List It} {ts : List (List Int)} {k : Nat} {pre post : List Nat} {a b : Nat} (hq : ts[k]? = some (toZ (pre ++ b :: a :: post))) (h : blk l a < blk l b) : sortedB l ts = false :=
  sortedB_no (goT_fall hq (fun t s => goL_fall h) _ _)
/-- The relation of x and y holds of the codes; those of x to the first k; those of the first k. -/
def okR (l : List It) (v : List Int) (x y : Nat) : Bool := rel l x y == 0 || decide (v.getD x 0 + str1 l x y ≤ v.getD y 0)
def rowR (l : List It) (v : List Int) (x k : Nat) : Bool := (List.range k).all fun y => okR l v x y
def allR (l : List It) (v : List Int) (k : Nat) : Bool := (List.range k).all fun x => rowR l v x l.length
theorem rowR_succ (l : List It) (v : List Int) (x k : Nat) : rowR l v x (k + 1) = (rowR l v x k && okR l v x k) := by
  unfold rowR; rw [List.range_succ, List.all_append]; simp
theorem allR_succ (l : List It) (v : List Int) (k : Nat) : allR l v (k + 1) = (allR l v k && rowR l v k l.length) := by
  unfold allR; rw [List.range_succ, List.all_append]; simp
theorem desc (l : List It) : ∀ p : List Nat, p.Pairwise (fun x y => blk l x ≤ blk l y) ∨ ∃ pre b a post, p = pre ++ b :: a :: post ∧ blk l a < blk l b := by
  intro p
  induction p with
  | nil => exact Or.inl List.Pairwise.nil
  | cons b p ih =>
    rcases ih with h | ⟨pre, b', a, post, rfl, h⟩
    · cases p with
      | nil => exact Or.inl (List.pairwise_singleton _ _)
      | cons a post =>
        by_cases g : blk l a < blk l b
        · exact Or.inr ⟨[], b, a, post, rfl, g⟩
        · refine Or.inl (List.pairwise_cons.2 ⟨fun y hy => ?_, h⟩)
          rcases List.mem_cons.1 hy with rfl | hy
          · omega
          · have := (List.pairwise_cons.1 h).1 y hy
            omega
    · exact Or.inr ⟨b :: pre, b', a, post, rfl, h⟩
theorem getD_memL {ts : List (List Nat)} {b : Nat} (h : b < ts.length) : ts[b]? = some (ts.getD b []) ∧ ts.getD b [] ∈ ts := by
  have e : ts[b]? = some (ts.getD b []) := by rw [List.getD_eq_getElem?_getD, List.getElem?_eq_getElem h]; rfl
  exact ⟨e, List.mem_of_getElem? e⟩
theorem sor_plain {l : List It} {wt : Int} {S : Nat} {v : List Int} (h : Pl l wt S v) :
    sortedB l ((mT S l.length (tnT l) (cdN v) (rdN l) (tnN l) (S + 1)).map toZ) = allR l v l.length := by
  have hf := h.fitN
  have hlen : (mT S l.length (tnT l) (cdN v) (rdN l) (tnN l) (S + 1)).length = tnT l := mT_len _
  have hon := fun b (hb : b < tnT l) => onT_end hf hb
  obtain ⟨ts, hts⟩ : ∃ ts, ts = mT S l.length (tnT l) (cdN v) (rdN l) (tnN l) (S + 1) := ⟨_, rfl⟩
  rw [← hts] at hlen hon ⊢
  cases hall : allR l v l.length with
  | true =>
    have hok : ∀ x y, x < l.length → y < l.length → okR l v x y = true := fun x y hx hy => by
      have h1 := List.all_eq_true.1 hall x (List.mem_range.2 hx)
      exact List.all_eq_true.1 h1 y (List.mem_range.2 hy)
    refine sorted_good (fun k p hp => ?_) (fun x hx => ?_)
    · have hk : k < ts.length := (List.getElem?_eq_some_iff.1 hp).1
      obtain ⟨h1, h2⟩ := hon k (by omega)
      have hpe : ts.getD k [] = p := by rw [List.getD_eq_getElem?_getD, hp]; rfl
      rw [hpe] at h1 h2
      refine ⟨fun x hx => ?_, h2.imp_of_mem fun {x y} hx hy hxy => ?_, h2.imp fun {x y} hxy e => ?_⟩
      · obtain ⟨a1, a2⟩ := (h1 x).1 hx
        exact ⟨a1, by rw [(h.tn a1).1, a2]⟩
      · obtain ⟨a1, a2⟩ := (h1 x).1 hx
        obtain ⟨b1, b2⟩ := (h1 y).1 hy
        rcases Int.lt_or_le (blk l y) (blk l x) with g | g
        · exfalso
          have hr : rel l y x = if x < y then 2 else 1 := by
            unfold rel
            rw [if_neg (by rw [(h.tn a1).1, (h.tn b1).1, a2, b2]; omega)]
          have ho := hok y x b1 a1
          unfold okR str1 at ho
          rw [(h.cd a1).1, (h.cd b1).1, hr] at ho
          by_cases hxy2 : x < y
          · rw [if_pos hxy2] at ho
            simp at ho
            omega
          · rw [if_neg hxy2] at ho
            simp at ho
            omega
        · exact g
      · subst e; omega
    · have ht := (h.tn hx).2
      obtain ⟨h1, h2⟩ := hon (tnN l x) ht
      exact ⟨_, (getD_memL (by omega)).2, (h1 x).2 ⟨hx, rfl⟩⟩
  | false =>
    obtain ⟨x, hx, hx2⟩ : ∃ x, x < l.length ∧ rowR l v x l.length = false := by
      rw [← Bool.not_eq_true, allR, List.all_eq_true] at hall
      simp only [List.mem_range] at hall
      exact Classical.byContradiction fun e => hall fun x hx => by
        cases g : rowR l v x l.length with
        | true => rfl
        | false => exact absurd ⟨x, hx, g⟩ e
    obtain ⟨y, hy, hy2⟩ : ∃ y, y < l.length ∧ okR l v x y = false := by
      rw [← Bool.not_eq_true, rowR, List.all_eq_true] at hx2
      simp only [List.mem_range] at hx2
      exact Classical.byContradiction fun e => hx2 fun y hy => by
        cases g : okR l v x y with
        | true => rfl
        | false => exact absurd ⟨y, hy, g⟩ e
    unfold okR at hy2
    rw [Bool.or_eq_false_iff, beq_eq_false_iff_ne, decide_eq_false_iff_not] at hy2
    obtain ⟨r1, r2⟩ := hy2
    obtain ⟨t1, t2⟩ := rel_pos r1
    have htn : tnN l x = tnN l y := by
      have e1 := (h.tn hx).1
      have e2 := (h.tn hy).1
      omega
    have ht := (h.tn hx).2
    obtain ⟨h1, h2⟩ := hon (tnN l x) ht
    have hxp := (h1 x).2 ⟨hx, rfl⟩
    have hyp := (h1 y).2 ⟨hy, htn.symm⟩
    obtain ⟨hg, _⟩ := getD_memL (ts := ts) (b := tnN l x) (by omega)
    obtain ⟨p, hp⟩ : ∃ p, p = ts.getD (tnN l x) [] := ⟨_, rfl⟩
    rw [← hp] at h2 hxp hyp hg
    rw [(h.cd hx).1, (h.cd hy).1] at r2
    rcases desc l p with hd | ⟨pre, b, a, post, e, hb⟩
    · exfalso
      obtain ⟨i, hi, rfl⟩ := List.mem_iff_getElem.1 hxp
      obtain ⟨j, hj, rfl⟩ := List.mem_iff_getElem.1 hyp
      rcases Nat.lt_trichotomy i j with g | g | g
      · have q := List.pairwise_iff_getElem.1 h2 i j hi hj g
        have hs : str1 l p[i] p[j] = if p[j] < p[i] then 1 else 0 := by
          have hrl : rel l p[i] p[j] = if p[j] < p[i] then 2 else 1 := by
            unfold rel
            rw [if_neg (by rintro (e | e) <;> omega)]
          unfold str1
          rw [hrl]
          by_cases c : p[j] < p[i]
          · rw [if_pos c, if_pos c]; rfl
          · rw [if_neg c, if_neg c]; rfl
        rw [hs] at r2
        split at r2 <;> omega
      · subst g; omega
      · have q := List.pairwise_iff_getElem.1 hd j i hj hi g
        omega
    · refine sorted_fall (k := tnN l x) (pre := pre) (post := post) (a := a) (b := b) ?_ hb
      rw [List.getElem?_map, hg, e]; rfl
end Go.Proofs.Ytkopbnppjhdbgaa

namespace Go.Proofs.Ytkopbnppjhdbgaa
open Go.RowKit Go.Lib

theorem Pl.set {l : List It} {wt : Int} {S : Nat} {v : List Int} (h : Pl l wt S v) {i z : Nat} (hi : i < l.length) (hz : isC (rdN l i) wt.toNat z = true) (hl : z < 2 ^ S) : Pl l wt S (v.set i (z : Int)) := by
  have hf := formOk_of h.val
  refine ⟨h.val, fitB_iff.2 ⟨by have := h.s12; omega, by rw [List.length_set]; exact h.len, fun x hx => ?_⟩⟩
  by_cases e : i = x
  · subst e
    unfold okC
    have hat : (v.set i (z : Int)).getD i 0 = z := by
      rw [List.getD_eq_getElem?_getD, List.getElem?_set, if_pos rfl, if_pos (by rw [h.len]; exact hi)]; rfl
    have e2 : (2 : Int) ^ ((S : Int)).toNat = ((2 ^ S : Nat) : Int) := by simp
    obtain ⟨V, hV⟩ := Int.eq_ofNat_of_zero_le hf.wb.1
    rw [hat, (h.rd hi).1, e2, decide_eq_true (show (z : Int) < ((2 ^ S : Nat) : Int) by omega)]
    rw [hV] at hz ⊢
    rw [isZ_nat (h.rd hi).2 (by have := hf.wb.2; omega)]
    exact hz
  · have := (fitB_iff.1 h.fit).2.2 x hx
    unfold okC at this ⊢
    rw [List.getD_eq_getElem?_getD, List.getElem?_set, if_neg e, ← List.getD_eq_getElem?_getD]
    exact this
/-- A plan in the block g whose list may be any other of the call's own. -/
structure PQ (wr : World) (m g : Nat) (st : Int) (A : Option Addr) (n c : Nat) (v : List Int) : Prop where
  box : PBox wr g st A n c
  own : Own .i64 3 wr (m + 1) (.slice A n c) v
  ne : ∀ q, (Value.slice A n c).ownBlock = some q → q ≠ g
  len : n = v.length
  lt : m < g
section
variable {w w' : World} {m g n c : Nat} {st : Int} {A : Option Addr} {v : List Int}
theorem PQ.of (h : PSt w m g st A n c v) : PQ w m g st A n c v := ⟨h.box, h.own, fun q hq => by have := h.lo q hq; omega, h.len, h.lt⟩
theorem PQ.below (h : PQ w m g st A n c v) (k : Below w.heap.size w w') : PQ w' m g st A n c v := ⟨h.box.below k h.box.lt, h.own.below k, h.ne, h.len, h.lt⟩
theorem PQ.step (h : PQ w m g st A n c v) (k : Moves m w w') : PQ w' m g st A n c v := ⟨h.box.moves k (by have := h.lt; omega), h.own.moves k (Nat.lt_succ_self _), h.ne, h.len, h.lt⟩
theorem PQ.row (h : PQ w m g st A n c v) : Row .i64 w w.heap.size A v ∧ v.length ≤ maxLen := by
  obtain ⟨A', c', ev, LR, -, hm, -⟩ := h.own.slice
  have e1 : A = A' := by injection ev
  subst e1
  exact ⟨LR, hm⟩
theorem PBox.setN {b : Nat} (h : PBox w b st A n c) {p : Addr} (hp : p.block ≠ b) (u : Value) : PBox (w.setCell p u) b st A n c := by
  have nb : ∀ j, p ≠ ⟨b, j, none⟩ := fun j e => hp (congrArg Addr.block e)
  exact ⟨(World.cell?_setCell_other _ _ _ _ (nb 0)).trans h.c0, (World.cell?_setCell_other _ _ _ _ (nb 1)).trans h.c1, fun j => by rw [World.frozen?_setCell]; exact h.f j, by rw [World.size_setCell]; exact h.lt⟩
/-- The box g1 takes the plan of the box g. -/
theorem PQ.put {g1 n1 c1 : Nat} {st1 : Int} {A1 : Option Addr} (h : PQ w m g st A n c v) (p : PBox w g1 st1 A1 n1 c1) (hm : m < g1) (hne : g1 ≠ g) (ho : ∀ q, (Value.slice A n c).ownBlock = some q → q ≠ g1) :
    PQ ((w.setCell ⟨g1, 0, none⟩ (.int .i64 st)).setCell ⟨g1, 1, none⟩ (.slice A n c)) m g1 st A n c v ∧ PQ ((w.setCell ⟨g1, 0, none⟩ (.int .i64 st)).setCell ⟨g1, 1, none⟩ (.slice A n c)) m g st A n c v :=
  have O := (h.own.setN (p := ⟨g1, 0, none⟩) ho (.int .i64 st)).setN (p := ⟨g1, 1, none⟩) ho (.slice A n c)
  ⟨⟨p.put, O, ho, h.len, hm⟩, ⟨(h.box.setN (p := ⟨g1, 0, none⟩) hne _).setN (p := ⟨g1, 1, none⟩) hne _, O, h.ne, h.len, h.lt⟩⟩
/-- A code is stored. -/
theorem PQ.code {gq : Nat} (h : PQ w m g st (some ⟨gq, 0, none⟩) n c v) (j : Nat) (x : Int) : PQ (w.setCell ⟨gq, j, none⟩ (.int .i64 x)) m g st (some ⟨gq, 0, none⟩) n c (v.set j x) :=
  ⟨h.box.setN (p := ⟨gq, j, none⟩) (h.ne gq rfl) _, h.own.store h.len j x, h.ne, by rw [List.length_set]; exact h.len, h.lt⟩
theorem JM.setC {w0 wr : World} {b cj N : Nat} {jA : Option Addr} {l : List It} {wt : Int} (h : JM w0 wr b jA cj l wt N) {p : Addr} (hp : b < p.block) (u : Value) : JM w0 (wr.setCell p u) b jA cj l wt N :=
  h.under (B := b + 1) ((Below.refl (b + 1) wr).setCell (p := p) hp u) (Nat.lt_succ_self b)
end
end Go.Proofs.Ytkopbnppjhdbgaa

namespace Go.Proofs.Ytkopbnppjhdbgaa
open Go.RowKit Go.Lib

set_option maxRecDepth 100000 in
set_option maxHeartbeats 6400000 in
theorem sor_walk (A : Option Addr) (c : Nat) (zs : List Int) (w : World) (hr : Row .i64 w w.heap.size A zs) (hm : zs.length ≤ maxLen) (hw : ∀ n ∈ zs, (Lit.int .i64 n).wf = true) :
    Calls Try.prog 6 #[.slice A zs.length c] w fun e w' => e = .returned (.bool true) ∧ Below w.heap.size w w' := by
  have K := Lib.hid (mk_row (c := c) (T := 73) hr hm hw)
  have B := Lib.hid ((Below.refl w.heap.size w).alloc (Nat.le_refl _) (.cells #[.slice A zs.length c, .int .i64 0] 73))
  clear hr hw
  go_enter Try.func6, Try.ntmps6
  go_wp2_with fail
  refine (new_any A zs.length c w).mono ?_
  rintro e w1 ⟨rfl, hw1⟩
  rw [← hw1] at K B
  clear hw1 hm
  go_wp2_with fail
  refine mjob_start w w1 10 (by omega) K.out B.out ?_
  intro jA jc l wt w2 hl hlt hS
  obtain ⟨b, hb⟩ : ∃ b, b = w2.heap.size := ⟨_, rfl⟩
  have S3 := Lib.hid (hS b hb)
  clear K B hS hlt
  go_upto_region 3 with fail
  rw [← hb]
  generalize w2.alloc (.cells #[.slice jA l.length jc, .int .i64 wt] 24) = w3 at *
  clear hb
  obtain ⟨L, hL⟩ : ∃ n, n = l.length := ⟨_, rfl⟩
  have HL := Lib.hid hL
  have HPN := Lib.hid (plan_any l jA jc L wt hL w.heap.size (5 + 5 * 10) (by omega) w3 S3.out.val (by have := S3.out.own; rw [← hL] at this; exact this) S3.out.mkr)
  have HV := Lib.hid S3.out.val
  have J := S3.out.box
  rw [← hL] at J hl ⊢
  obtain ⟨j0, j1, jl⟩ := J
  clear hL
  go_wp2_with fail
  refine HPN.out.mono ?_
  rintro e w4 ⟨S, pA, pc, v, rfl, PO, hpl, k4, v4⟩
  have HPL := Lib.hid hpl
  have S4 := Lib.hid (S3.out.step v4 k4)
  obtain ⟨g1, hg1⟩ : ∃ g, g = w4.heap.size := ⟨_, rfl⟩
  have P4 := Lib.hid (PSt.new (st := (S : Int)) (m := w.heap.size) PO (Nat.lt_trans S3.out.lt S3.out.box.lt) g1 hg1 (by rw [hg1]; have := S4.out.lt; have := S4.out.box.lt; omega))
  have BX := (Below.refl w4.heap.size w4).alloc (Nat.le_refl _) (.cells #[.int .i64 (S : Int), .slice pA v.length pc] 27)
  have S5 := Lib.hid (S4.out.below BX)
  have HBG := Lib.hid (show b < g1 by rw [hg1]; exact S4.out.box.lt)
  have hvl := hpl.len
  rw [← HL.out] at hvl
  clear j0 j1 jl S3 S4 PO BX k4 v4 hpl HPN
  go_upto_region 4 with fail
  rw [← hg1]
  rw [hvl] at P4 S5
  generalize w4.alloc (.cells #[.int .i64 (S : Int), .slice pA L pc] 27) = w5 at *
  clear hg1
  have hL10 : L ≤ 10 := hl
  obtain ⟨M, hM⟩ : ∃ M, M = 5 + 5 * 10 + 1 + l.length := ⟨_, rfl⟩
  have hM2 : M ≤ 66 := by rw [hM, ← HL.out]; omega
  rw [← hM] at S5
  clear hvl hl hM
  have HC := Lib.hid (fun (W : World) (q : IRow W jA l) => least_any l jA jc L wt HL.out W q)
  have J := S5.out.box
  rw [← HL.out] at J
  obtain ⟨j0, j1, jl⟩ := J
  go_wp2_with fail
  refine (HC.out w5 S5.out.irow).mono ?_
  rintro e w6 ⟨st, qA, qn, qc, er, u, rfl, O, B6, hr⟩
  have HR := Lib.hid (hr.valid HV.out)
  obtain ⟨g2, hg2⟩ : ∃ g, g = w6.heap.size := ⟨_, rfl⟩
  have BX := (Below.refl w6.heap.size w6).alloc (Nat.le_refl _) (.cells #[.int .i64 st, .slice qA qn qc] 27)
  have HG5 := Lib.hid (show g1 < w5.heap.size from P4.out.box.lt)
  have HG12 := Lib.hid (show g1 < g2 by rw [hg2]; exact Nat.lt_of_lt_of_le P4.out.box.lt B6.size)
  have Q7 := Lib.hid (PQ.of (PSt.new (st := st) (m := w.heap.size) O (Nat.lt_trans S5.out.lt S5.out.box.lt) g2 hg2 (by have := HG12.out; have := P4.out.lt; omega)))
  have HQB := Lib.hid (show ∀ q, (Value.slice qA qn qc).ownBlock = some q → g1 < q from fun q hq => Nat.lt_of_lt_of_le HG5.out (own_block O hq).1)
  have S7 := Lib.hid ((S5.out.below B6).below BX)
  have P7 := Lib.hid ((PQ.of P4.out).below (B6.trans (BX.mono B6.size)))
  clear j0 j1 jl O B6 hr BX S5 P4 HC HG5
  go_upto_region 5 with fail
  rw [← hg2]
  generalize w6.alloc (.cells #[.int .i64 st, .slice qA qn qc] 27) = w7 at *
  clear hg2
  go_cut [45] from 30 to 45 (fun cv wx => ∃ cb : Bool, cv = .bool cb ∧ Hid (cb = true → er = 0) ∧ Hid (JM w wx b jA jc l wt (M + 1)) ∧ Hid (PQ wx w.heap.size g1 (S : Int) pA L pc v) ∧ Hid (PQ wx w.heap.size g2 st qA qn qc u))
  case first =>
    rcases HR.out with ⟨rfl, rfl, rfl, hno⟩ | ⟨rfl, bs, hsol, hst⟩
    · clear HR hno
      go_wp2_with fail
      go_meet
      case rel => exact ⟨false, rfl, Lib.hid (fun h => by cases h), Lib.hid (S7.out.step (Moves.refl _ _) (S7.out.mkr.more (by omega))), P7, Q7⟩
    · obtain ⟨S2, hS2, hpl2⟩ := sol_pl HV.out hsol hst
      have hqn : qn = L := by rw [Q7.out.len, hpl2.len, HL.out]
      subst hqn
      clear HR hsol hst hpl2 hS2
      go_wp2_with fail
      refine (next_any w.heap.size M 2 w7 S7.out.mkr (by omega) (by decide) (by decide)).mono ?_
      rintro e w8 ⟨y, rfl, y1, y2, k8, v8⟩
      have S8 := Lib.hid (S7.out.step v8 k8)
      have P8 := Lib.hid (P7.out.step v8)
      have Q8 := Lib.hid (Q7.out.step v8)
      clear k8 v8 S7 P7 Q7
      obtain ⟨q0, q1, -, ql⟩ := Q8.out.box
      have J := S8.out.box
      rw [← HL.out] at J
      obtain ⟨j0, j1, jl⟩ := J
      have hll : ((qn : Int) == (qn : Int)) = true := by simp
      by_cases hy : y = 0
      · subst hy
        go_wp2_with fail
        go_meet
        case rel => exact ⟨true, rfl, Lib.hid (fun _ => trivial), S8, P8, Q8⟩
      · have hne : (y == 0) = false := beq_eq_false_iff_ne.2 hy
        go_wp2_with fail
        go_meet
        case rel => exact ⟨false, rfl, Lib.hid (fun h => by cases h), S8, P8, Q8⟩
  case rest =>
  obtain ⟨cb, rfl, HCB, S8, P8, Q8⟩ := hcut
  clear S7 P7 Q7
  generalize wc = w8 at *
  go_upto_if 45 with fail
  go_cut [] from 46 to 91 (fun wx => ∃ (S' : Nat) (v' : List Int) (A' : Option Addr) (c' : Nat), Hid (Pl l wt S' v') ∧ Hid (PQ wx w.heap.size g1 (S' : Int) A' L c' v') ∧ Hid (JM w wx b jA jc l wt (M + 5)))
  case first =>
    cases cb with
    | false =>
      go_wp2_with fail
      go_meet
      case rel => exact ⟨S, v, pA, pc, HPL, P8, Lib.hid (S8.out.step (Moves.refl _ _) (S8.out.mkr.more (by omega)))⟩
    | true =>
      have her := HCB.out rfl
      obtain ⟨bs, hsol, hst⟩ : ∃ bs, Sol l wt bs u ∧ StepsOf u st := by
        rcases HR.out with h | h
        · exfalso; have := h.1; omega
        · exact h.2
      obtain ⟨S2, hS2, hpl2⟩ := sol_pl HV.out hsol hst
      subst hS2
      have HP2 := Lib.hid hpl2
      have hS12 := hpl2.s12
      have hqn : qn = L := by rw [Q8.out.len, hpl2.len, HL.out]
      subst hqn
      clear HR hsol hst hpl2 her HCB
      obtain ⟨q0, q1, -, ql⟩ := Q8.out.box
      obtain ⟨p0, p1, pf, pl⟩ := P8.out.box
      have pf0 := pf 0
      have pf1 := pf 1
      · have hput := Q8.out.put P8.out.box P8.out.lt (by have := HG12.out; omega) (fun q hq => by have := HQB.out q hq; omega)
        have P9 := Lib.hid hput.1
        have Q9 := Lib.hid hput.2
        have S9 := Lib.hid ((S8.out.setC (p := ⟨g1, 0, none⟩) HBG.out (.int .i64 (S2 : Int))).setC (p := ⟨g1, 1, none⟩) HBG.out (.slice qA qn qc))
        clear hput
        go_upto_region 7 with fail
        generalize (w8.setCell ⟨g1, 0, none⟩ (.int .i64 (S2 : Int))).setCell ⟨g1, 1, none⟩ (.slice qA qn qc) = w9 at *
        clear q0 q1 ql p0 p1 pf pl pf0 pf1 S8 P8 Q8
        obtain ⟨q0, q1, -, ql⟩ := Q9.out.box
        by_cases hL0 : qn = 0
        · have hnp : ¬ (0 : Int) < (qn : Int) := by omega
          clear hL0
          go_wp2_with fail
          go_meet
          case rel => exact ⟨S2, u, qA, qc, HP2, P9, Lib.hid (S9.out.step (Moves.refl _ _) (S9.out.mkr.more (by omega)))⟩
        · have hp0 : (0 : Int) < (qn : Int) := by omega
          clear hL0
          go_wp2_with fail
          refine (next_any w.heap.size (M + 1) 2 w9 S9.out.mkr (by omega) (by decide) (by decide)).mono ?_
          rintro e w10 ⟨y', rfl, y1', y2', k10, v10⟩
          have S10 := Lib.hid (S9.out.step v10 k10)
          have P10 := Lib.hid (P9.out.step v10)
          have Q10 := Lib.hid (Q9.out.step v10)
          clear k10 v10 S9 P9 Q9 q0 q1 ql
          obtain ⟨q0, q1, -, ql⟩ := Q10.out.box
          by_cases hy' : y' = 0
          · subst hy'
            go_wp2_with fail
            refine (next_any w.heap.size (M + 1 + 1) (qn : Int) w10 S10.out.mkr (by omega) (by omega) (by omega)).mono ?_
            rintro e w11 ⟨y3, rfl, y31, y32, k11, v11⟩
            have S11 := Lib.hid (S10.out.step v11 k11)
            have P11 := Lib.hid (P10.out.step v11)
            have Q11 := Lib.hid (Q10.out.step v11)
            clear k11 v11 S10 P10 Q10 q0 q1 ql
            obtain ⟨i, rfl⟩ := Int.eq_ofNat_of_zero_le y31
            have hiq : i < qn := by omega
            have hil : i < l.length := by rw [← HL.out]; exact hiq
            have HRD := Lib.hid (HP2.out.rd hil)
            obtain ⟨aA, rfl, CE⟩ := S11.out.irow.at_ i hil
            obtain ⟨-, -, c2, -⟩ := CE.spelt
            rw [show (l.getD i it0).2.2.1 = (rdN l i : Int) from HRD.out.1] at c2
            have ltc := lt_of_cell c2
            have haA : (aA.add (i * 4)).block ≠ w.heap.size := by
              obtain ⟨A', c', ev, _, _, _, hge⟩ := S11.out.own.full
              obtain ⟨g, hg, hg1, hg2⟩ := hge (by omega)
              have e1 : (some aA : Option Addr) = A' := by injection ev
              rw [hg] at e1
              have e2 : aA = ⟨g, 0, none⟩ := by injection e1
              rw [add_block, e2]; show g ≠ w.heap.size; omega
            obtain ⟨R, hR⟩ : ∃ R, R = rdN l i := ⟨_, rfl⟩
            rw [← hR] at c2 HRD
            have HRR := Lib.hid hR
            have hR12 : R ≤ 12 := HRD.out.2
            have hpw := powW hS12
            have hp4 := pow_le4096 hS12
            have hp1 := Nat.two_pow_pos S2
            obtain ⟨PW, hPW⟩ : ∃ x, x = 2 ^ S2 := ⟨_, rfl⟩
            rw [← hPW] at hpw hp4 hp1
            have HPW := Lib.hid hPW
            clear hPW hR
            have HSS := Lib.hid (show ∀ W, Moves w.heap.size w11 W → W.cell? ⟨g2, 0, none⟩ = some (.int .i64 (S2 : Int)) ∧ W.cell? ⟨b, 0, none⟩ = some (.slice (some aA) qn jc) ∧ W.cell? ⟨b, 1, none⟩ = some (.int .i64 wt) ∧ W.cell? ⟨(aA.add (i * 4)).block, (aA.add (i * 4)).off + 2, none⟩ = some (.int .i64 (R : Int)) from fun W q => by
              have o1 := Q11.out.lt
              have o2 := S11.out.lt
              have c0 := S11.out.box.c0
              rw [← HL.out] at c0
              exact ⟨(q.cell (p := ⟨g2, 0, none⟩) Q11.out.box.lt (by show g2 ≠ _; omega)).trans Q11.out.box.c0, (q.cell (p := ⟨b, 0, none⟩) S11.out.box.lt (by show b ≠ _; omega)).trans c0, (q.cell (p := ⟨b, 1, none⟩) S11.out.box.lt (by show b ≠ _; omega)).trans S11.out.box.c1, (q.cell ltc haA).trans c2⟩)
            clear CE c2 ltc haA
            go_upto_region 9 with fail
            obtain ⟨x0, e0⟩ : ∃ q, q = w11.drew := ⟨_, rfl⟩
            have M0 := Lib.hid (show Moves w.heap.size w11 x0 by rw [e0]; exact (Moves.refl _ _).drewN (n := 1))
            have KM0 := Lib.hid (show IsMk x0 w.heap.size (M + 1 + 1 + 1) by rw [e0]; exact S11.out.mkr.stays' ⟨rfl, rfl, rfl, Nat.le_refl _, fun _ _ => rfl⟩)
            have F0 := HSS.out x0 M0.out
            have HE0 := Lib.hid e0
            clear e0
            refine AnyT.begin_at tlN (fun X => X.cell? ⟨g2, 0, none⟩ = some (.int .i64 (S2 : Int)) ∧ X.cell? ⟨b, 0, none⟩ = some (.slice (some aA) qn jc) ∧ X.cell? ⟨b, 1, none⟩ = some (.int .i64 wt) ∧ X.cell? ⟨(aA.add (i * 4)).block, (aA.add (i * 4)).off + 2, none⟩ = some (.int .i64 (R : Int))) (by kernel_rfl) HE0.out F0 ?_
            clear F0
            intro F0
-- TAKES P1
            refine AnyT.takeD (i := 0) (d := some 62) (v := .pointer (some ⟨w.heap.size, 0, none⟩)) rfl rfl (by kernel_rfl) (by kernel_rfl) (by kernel_rfl) (by kernel_rfl) (fun _ _ _ h => h) (Or.inl ⟨by rfl, fun wz _ => by go_simp⟩) F0 ?_
            simp only [Act.put, List.setIfInBounds_toArray, List.set_cons_zero, List.set_cons_succ]
            refine AnyT.takeD (i := 1) (d := some 63) (v := .pointer (some ⟨g2, 0, none⟩)) rfl rfl (by kernel_rfl) (by kernel_rfl) (by kernel_rfl) (by kernel_rfl) (fun _ _ _ h => h) (Or.inl ⟨by rfl, fun wz _ => by go_simp⟩) F0 ?_
            simp only [Act.put, List.setIfInBounds_toArray, List.set_cons_zero, List.set_cons_succ]
            refine AnyT.takeD (i := 2) (d := some 64) (v := .int .i64 (S2 : Int)) rfl rfl (by kernel_rfl) (by kernel_rfl) (by kernel_rfl) (by kernel_rfl) (fun _ _ _ h => h) (Or.inl ⟨by rfl, fun wz hz => by obtain ⟨z0, z1, z2, z3⟩ := hz; go_simp⟩) F0 ?_
            simp only [Act.put, List.setIfInBounds_toArray, List.set_cons_zero, List.set_cons_succ]
            refine AnyT.takeD (i := 3) (d := some 65) (v := .int .i64 (PW : Int)) rfl rfl (by kernel_rfl) (by kernel_rfl) (by kernel_rfl) (by kernel_rfl) (fun _ _ _ h => h) (Or.inl ⟨by rfl, fun wz _ => by go_simp⟩) F0 ?_
            simp only [Act.put, List.setIfInBounds_toArray, List.set_cons_zero, List.set_cons_succ]
            refine AnyT.takeD (i := 5) (d := some 67) (v := .pointer (some ⟨b, 0, none⟩)) rfl rfl (by kernel_rfl) (by kernel_rfl) (by kernel_rfl) (by kernel_rfl) (fun _ _ _ h => h) (Or.inl ⟨by rfl, fun wz _ => by go_simp⟩) F0 ?_
            simp only [Act.put, List.setIfInBounds_toArray, List.set_cons_zero, List.set_cons_succ]
            refine AnyT.takeD (i := 6) (d := some 68) (v := .slice (some aA) qn jc) rfl rfl (by kernel_rfl) (by kernel_rfl) (by kernel_rfl) (by kernel_rfl) (fun _ _ _ h => h) (Or.inl ⟨by rfl, fun wz hz => by obtain ⟨z0, z1, z2, z3⟩ := hz; go_simp⟩) F0 ?_
            simp only [Act.put, List.setIfInBounds_toArray, List.set_cons_zero, List.set_cons_succ]
            refine AnyT.takeD (i := 7) (d := some 69) (v := .int .i64 (i : Int)) rfl rfl (by kernel_rfl) (by kernel_rfl) (by kernel_rfl) (by kernel_rfl) (fun _ _ _ h => h) (Or.inl ⟨by rfl, fun wz _ => by go_simp⟩) F0 ?_
            simp only [Act.put, List.setIfInBounds_toArray, List.set_cons_zero, List.set_cons_succ]
            refine AnyT.takeD (i := 8) (d := some 70) (v := .pointer (some (aA.add (i * 4)))) rfl rfl (by kernel_rfl) (by kernel_rfl) (by kernel_rfl) (by kernel_rfl) (fun _ _ _ h => h) (Or.inl ⟨by rfl, fun wz _ => by go_simp⟩) F0 ?_
            simp only [Act.put, List.setIfInBounds_toArray, List.set_cons_zero, List.set_cons_succ]
            refine AnyT.takeD (i := 9) (d := some 71) (v := .pointer (some ⟨(aA.add (i * 4)).block, (aA.add (i * 4)).off + 2, none⟩)) rfl rfl (by kernel_rfl) (by kernel_rfl) (by kernel_rfl) (by kernel_rfl) (fun _ _ _ h => h) (Or.inl ⟨by rfl, fun wz _ => by go_simp⟩) F0 ?_
            simp only [Act.put, List.setIfInBounds_toArray, List.set_cons_zero, List.set_cons_succ]
            refine AnyT.takeD (i := 10) (d := some 72) (v := .int .i64 (R : Int)) rfl rfl (by kernel_rfl) (by kernel_rfl) (by kernel_rfl) (by kernel_rfl) (fun _ _ _ h => h) (Or.inl ⟨by rfl, fun wz hz => by obtain ⟨z0, z1, z2, z3⟩ := hz; go_simp⟩) F0 ?_
            simp only [Act.put, List.setIfInBounds_toArray, List.set_cons_zero, List.set_cons_succ]
            refine AnyT.takeD (i := 11) (d := some 73) (v := .pointer (some ⟨b, 1, none⟩)) rfl rfl (by kernel_rfl) (by kernel_rfl) (by kernel_rfl) (by kernel_rfl) (fun _ _ _ h => h) (Or.inl ⟨by rfl, fun wz _ => by go_simp⟩) F0 ?_
            simp only [Act.put, List.setIfInBounds_toArray, List.set_cons_zero, List.set_cons_succ]
            refine AnyT.takeD (i := 12) (d := some 74) (v := .int .i64 wt) rfl rfl (by kernel_rfl) (by kernel_rfl) (by kernel_rfl) (by kernel_rfl) (fun _ _ _ h => h) (Or.inl ⟨by rfl, fun wz hz => by obtain ⟨z0, z1, z2, z3⟩ := hz; go_simp⟩) F0 ?_
            simp only [Act.put, List.setIfInBounds_toArray, List.set_cons_zero, List.set_cons_succ]
            -- TAKEN P1
            refine AnyT.branch (rs := [4]) (by kernel_rfl) (by simp) ?_
            refine all_cons (?_) all_nil
            refine AnyT.enter (i := 4) (d := some 66) (f := 19) (args := #[.pointer (some ⟨w.heap.size, 0, none⟩), .int .i64 (PW : Int)]) rfl rfl rfl (by go_simp) (next_any w.heap.size (M + 1 + 1 + 1) (PW : Int) x0 KM0.out (by omega) (by omega) (by omega)) ?_
            rintro e x1 ⟨y4, rfl, y41, y42, k2, v2⟩
            have M1 := Lib.hid (M0.out.trans v2)
            have KM1 := Lib.hid k2
            have F1 := HSS.out x1 M1.out
            refine ⟨_, rfl, fun _ => F1, ?_⟩
            clear F0 k2 v2 M0 KM0
            simp only [Act.put, List.setIfInBounds_toArray, List.set_cons_zero, List.set_cons_succ]
            have hnx := rnext_any y4 (R : Int) wt x1 (by omega)
            obtain ⟨⟨K, er2⟩, hz⟩ : ∃ t, t = nextZ y4 (R : Int) wt := ⟨_, rfl⟩
            rw [← hz] at hnx
            have HZ := Lib.hid hz
            have HNX := Lib.hid hnx
            clear hz hnx
            refine AnyT.branch (rs := [13]) (by kernel_rfl) (by simp) ?_
            refine all_cons (?_) all_nil
            refine AnyT.enter (i := 13) (d := some 75) (f := 24) (args := #[.int .i64 y4, .int .i64 (R : Int), .int .i64 wt]) rfl rfl rfl (by go_simp) HNX.out ?_
            rintro e x2 ⟨rfl, hx2⟩
            have B2 : Below x1.heap.size x1 x2 := by obtain ⟨n, rfl⟩ := hx2; exact bdn (Below.refl _ _)
            have M2 := Lib.hid (M1.out.trans (Moves.of_below B2))
            have KM2 := Lib.hid (KM1.out.stays' B2)
            have F2 := HSS.out x2 M2.out
            refine ⟨_, rfl, fun _ => F2, ?_⟩
            clear F1 hx2 B2 M1 KM1 HNX
            simp only [Act.put, List.setIfInBounds_toArray, List.set_cons_zero, List.set_cons_succ]
-- TAKES P2
            refine AnyT.takeD (i := 14) (d := some 61) (v := R2 (K, er2)) rfl rfl (by kernel_rfl) (by kernel_rfl) (by kernel_rfl) (by kernel_rfl) (fun _ _ _ h => h) (Or.inl ⟨by rfl, fun wz _ => by go_simp⟩) F2 ?_
            simp only [Act.put, List.setIfInBounds_toArray, List.set_cons_zero, List.set_cons_succ]
            refine AnyT.takeD (i := 15) (d := some 76) (v := .int .i64 K) rfl rfl (by kernel_rfl) (by kernel_rfl) (by kernel_rfl) (by kernel_rfl) (fun _ _ _ h => h) (Or.inl ⟨by rfl, fun wz _ => by go_simp⟩) F2 ?_
            simp only [Act.put, List.setIfInBounds_toArray, List.set_cons_zero, List.set_cons_succ]
            refine AnyT.takeD (i := 16) (d := some 77) (v := .int .i64 er2) rfl rfl (by kernel_rfl) (by kernel_rfl) (by kernel_rfl) (by kernel_rfl) (fun _ _ _ h => h) (Or.inl ⟨by rfl, fun wz _ => by go_simp⟩) F2 ?_
            simp only [Act.put, List.setIfInBounds_toArray, List.set_cons_zero, List.set_cons_succ]
            refine AnyT.takeD (i := 17) (d := some 9) (v := .int .i64 K) rfl rfl (by kernel_rfl) (by kernel_rfl) (by kernel_rfl) (by kernel_rfl) (fun _ _ _ h => h) (Or.inl ⟨by rfl, fun wz _ => by go_simp⟩) F2 ?_
            simp only [Act.put, List.setIfInBounds_toArray, List.set_cons_zero, List.set_cons_succ]
            refine AnyT.takeD (i := 18) (d := some 10) (v := .int .i64 er2) rfl rfl (by kernel_rfl) (by kernel_rfl) (by kernel_rfl) (by kernel_rfl) (fun _ _ _ h => h) (Or.inl ⟨by rfl, fun wz _ => by go_simp⟩) F2 ?_
            simp only [Act.put, List.setIfInBounds_toArray, List.set_cons_zero, List.set_cons_succ]
            -- TAKEN P2
            refine AnyT.done_ (by kernel_rfl) ?_ _
            have S12 := Lib.hid (S11.out.step M2.out KM2.out)
            have P12 := Lib.hid (P11.out.step M2.out)
            clear HSS HE0 S11 P11 Q11 hpw KM2 M2
            obtain ⟨z0, -, -, -⟩ := F2
            have hpw : ∀ n : Nat, n = S2 → wrap64 (2 ^ n) = (PW : Int) := fun n hn => by rw [hn, HPW.out]; exact pow_run hS12
            have hf := formOk_of HV.out
            have HNB := Lib.hid (nextI (n := y4) (r := (R : Int)) (wt := wt) y41 (by omega) hf.wb)
            clear hf
            by_cases hgood : er2 = 0 ∧ K < (PW : Int)
            · obtain ⟨rfl, hKP⟩ := hgood
              have hKC : ∃ z : Nat, K = (z : Int) ∧ isC R wt.toNat z = true := by
                rcases HNB.out with ⟨z, e1, e2⟩ | ⟨e1, _⟩
                · rw [← HZ.out] at e1
                  injection e1 with e1
                  exact ⟨z, e1, e2.2.2.1⟩
                · rw [← HZ.out] at e1
                  injection e1 with _ e1
                  omega
              obtain ⟨z, rfl, hzc⟩ := hKC
              have HP3 := Lib.hid (HP2.out.set hil (by rw [← HRR.out]; exact hzc) (show z < 2 ^ S2 by rw [← HPW.out]; omega))
              obtain ⟨gq, rfl⟩ : ∃ gq, qA = some ⟨gq, 0, none⟩ := by
                obtain ⟨A', c', ev, _, _, _, hge⟩ := P12.out.own.slice
                obtain ⟨g, hg, _, _⟩ := hge (by rw [← P12.out.len]; omega)
                exact ⟨g, by rw [← hg]; injection ev⟩
              obtain ⟨p0, p1, -, pl⟩ := P12.out.box
              have cB := P12.out.own.cell P12.out.len i (by rw [← P12.out.len]; exact hiq)
              have fB := P12.out.own.frozen P12.out.len i
              have HQ3 := Lib.hid (P12.out.code i (z : Int))
              have HS3 := Lib.hid (S12.out.setC (p := ⟨gq, i, none⟩) (Nat.lt_trans HBG.out (HQB.out gq rfl)) (.int .i64 (z : Int)))
              have hii : (i : Int) < (qn : Int) := by omega
              clear hzc HNB
              go_wp2_with fail
              go_meet
              case rel => exact ⟨S2, _, _, qc, HP3, HQ3, Lib.hid (HS3.out.step (Moves.refl _ _) (HS3.out.mkr.more (by omega)))⟩
            · by_cases he : er2 = 0
              · subst he
                have hge : ¬ K < (PW : Int) := fun g => hgood ⟨rfl, g⟩
                clear hgood HNB
                go_wp2_with fail
                go_meet
                case rel => exact ⟨S2, u, qA, qc, HP2, P12, Lib.hid (S12.out.step (Moves.refl _ _) (S12.out.mkr.more (by omega)))⟩
              · have hne : (er2 == 0) = false := beq_eq_false_iff_ne.2 he
                clear hgood HNB
                go_wp2_with fail
                go_meet
                case rel => exact ⟨S2, u, qA, qc, HP2, P12, Lib.hid (S12.out.step (Moves.refl _ _) (S12.out.mkr.more (by omega)))⟩
          · have hne : (y' == 0) = false := beq_eq_false_iff_ne.2 hy'
            go_wp2_with fail
            go_meet
            case rel => exact ⟨S2, u, qA, qc, HP2, P10, Lib.hid (S10.out.step (Moves.refl _ _) (S10.out.mkr.more (by omega)))⟩
  case rest =>
  obtain ⟨S', v', A', c', HP', P9, S9⟩ := hcut
  clear HCB P8 Q8 S8 HR HQB HPL
  generalize wc = w9 at *
  have hvl := HP'.out.len
  rw [← HL.out] at hvl
  have HVL := Lib.hid hvl
  clear hvl
  have HRU := Lib.hid (fun (W : World) (k : IRow W jA l) (q : Row .i64 W W.heap.size A' v') => run_any l jA jc L wt (S' : Int) v' A' L c' HL.out HVL.out.symm W k q (by rw [HVL.out]; unfold maxLen; omega))
  have HV0 := Lib.hid HP'.out.val14
  have J := S9.out.box
  rw [← HL.out] at J
  obtain ⟨j0, j1, jl⟩ := J
  obtain ⟨p0, p1, -, pl⟩ := P9.out.box
  go_wp2_with fail
  refine (HRU.out w9 S9.out.irow P9.out.row.1).mono ?_
  rintro e w10 hc
  obtain ⟨-, S'', gr, hSS, -, rfl, hC⟩ := hc.resolve_left (fun h => h.1 HV0.out)
  obtain rfl : S' = S'' := by omega
  obtain ⟨T, hT⟩ : ∃ T, T = tnT l := ⟨_, rfl⟩
  have hT16 : T ≤ 16 := by rw [hT]; have := (tcI_bd (valid_ok HP'.out.val).2.1 l.length (Nat.le_refl _)).1; unfold tnT; omega
  have HTL := Lib.hid (show ((mT S' l.length (tnT l) (cdN v') (rdN l) (tnN l) (S' + 1)).map toZ).length = T by rw [List.length_map, mT_len, hT])
  have HSO := Lib.hid (show sortE l wt ((mT S' l.length (tnT l) (cdN v') (rdN l) (tnN l) (S' + 1)).map toZ) = (allR l v' l.length, 0) by unfold sortE; rw [if_pos HP'.out.val, sor_plain HP'.out])
  rw [← hT]
  obtain ⟨mv, hmv⟩ : ∃ x, x = mM S' l.length (cdN v') (rdN l) (S' + 1) := ⟨_, rfl⟩
  rw [← hmv]
  have BX := (Below.refl w10.heap.size w10).alloc (Nat.le_refl _) (.cells #[.slice (some ⟨gr, 0, none⟩) T T, .int .i64 (mv : Int)] 32)
  have BB := hC.bel.trans (BX.mono hC.bel.size)
  have S10 := Lib.hid (S9.out.below BB)
  have P10 := Lib.hid (P9.out.below BB)
  have hpp := hC.pp.below BX
  rw [hT] at HTL
  obtain ⟨ts, hts⟩ : ∃ ts, ts = (mT S' l.length (tnT l) (cdN v') (rdN l) (tnN l) (S' + 1)).map toZ := ⟨_, rfl⟩
  rw [← hts] at hpp HTL HSO
  rw [← hT] at HTL
  have HPP := Lib.hid hpp
  have HS1 := Lib.hid (show (w10.alloc (.cells #[.slice (some ⟨gr, 0, none⟩) T T, .int .i64 (mv : Int)] 32)).cell? ⟨w10.heap.size, 0, none⟩ = some (.slice (some ⟨gr, 0, none⟩) T T) from by rw [cell_new]; rfl)
  have HST := Lib.hid (fun (W : World) (k : IRow W jA l) (q : PP W (some ⟨gr, 0, none⟩) ts) => sorted_any l jA jc wt ts (some ⟨gr, 0, none⟩) T W k q (by rw [HTL.out]; unfold maxLen; omega))
  rw [HTL.out, HSO.out, ← HL.out] at HST
  clear hc hSS hC BX BB j0 j1 jl p0 p1 pl hpp hts hmv hT HRU S9 P9
  go_upto_region 13 with fail
  obtain ⟨sb, hsb⟩ : ∃ x, x = w10.heap.size := ⟨_, rfl⟩
  rw [← hsb] at HS1 ⊢
  generalize w10.alloc (.cells #[.slice (some ⟨gr, 0, none⟩) T T, .int .i64 (mv : Int)] 32) = w11 at *
  clear hsb
  have J := S10.out.box
  rw [← HL.out] at J
  obtain ⟨j0, j1, jl⟩ := J
  have s0 := HS1.out
  go_wp2_with fail
  refine (HST.out w11 S10.out.irow HPP.out).mono ?_
  rintro e w12 ⟨rfl, B12⟩
  have S12 := Lib.hid (S10.out.below B12)
  have P12 := Lib.hid (P10.out.below B12)
  clear s0 HST B12 S10 P10 HPP HS1 j0 j1 jl
  obtain ⟨p0, p1, -, pl⟩ := P12.out.box
  have HKI := Lib.hid (fun (x y : Nat) (hx : x < L) (hy : y < L) (W : World) (k : IRow W jA l) => kind_any l jA jc wt x y (by rw [← HL.out]; exact hx) (by rw [← HL.out]; exact hy) W k)
  have HSI := Lib.hid (fun (x y : Nat) (hx : x < L) (hy : y < L) (W : World) (k : IRow W jA l) => strict_any l jA jc wt x y (by rw [← HL.out]; exact hx) (by rw [← HL.out]; exact hy) W k)
  have HRO := Lib.hid (fun x y => rowR_succ l v' x y)
  have HAL := Lib.hid (fun x => allR_succ l v' x)
  rw [← HL.out] at HKI HSI HAL
  have HVB := Lib.hid (show ∀ x, x < L → 0 ≤ v'.getD x 0 ∧ v'.getD x 0 ≤ 1000000 from fun x hx => by
    have h1 := HP'.out.cd (x := x) (by rw [← HL.out]; exact hx)
    have h2 := pow_le4096 HP'.out.s12
    omega)
  obtain ⟨ok, hok⟩ : ∃ k, k = allR l v' L := ⟨_, rfl⟩
  rw [← hok]
  have HOK := Lib.hid hok
  clear hok
  go_wp2_with fail
  clear p0 p1 pl
  go_loopw [15, 114] (fun wv iv wr => ∃ (x : Nat) (f : Bool), x ≤ L ∧ wv = .bool f ∧ iv = .int .i64 (x : Int) ∧ Hid (f = allR l v' x) ∧ Hid (Below w12.heap.size w12 wr)) (fun _ iv _ => L - (intOf iv).toNat)
  case atStart => exact ⟨0, true, by omega, rfl, rfl, Lib.hid rfl, Lib.hid (Below.refl _ _)⟩
  case round =>
    obtain ⟨x, f0, hx, rfl, rfl, HF0, BR⟩ := hrel
    generalize wr = wo at *
    by_cases hlx : x < L
    · obtain ⟨p0, p1, -, pl⟩ := (P12.out.below BR.out).box
      have hxi : (x : Int) < (L : Int) := by omega
      go_wp2_with fail
      clear p0 p1 pl
      go_loopw [15, 120] (fun wv iv wi => ∃ (y : Nat) (f : Bool), y ≤ L ∧ wv = .bool f ∧ iv = .int .i64 (y : Int) ∧ Hid (f = (f0 && rowR l v' x y)) ∧ Hid (Below w12.heap.size w12 wi)) (fun _ iv _ => L - (intOf iv).toNat)
      case atStart => exact ⟨0, f0, by omega, rfl, rfl, Lib.hid (by simp [rowR]), BR⟩
      case round =>
        obtain ⟨y, f, hy, rfl, rfl, HF, BI⟩ := hrel
        by_cases hly : y < L
        · have S13 := Lib.hid (S12.out.below BI.out)
          have P13 := Lib.hid (P12.out.below BI.out)
          obtain ⟨pad, rfl, _, cx⟩ := P13.out.row.1 x (by rw [HVL.out]; exact hlx)
          obtain ⟨pad', e', _, cy⟩ := P13.out.row.1 y (by rw [HVL.out]; exact hly)
          obtain rfl : pad = pad' := by injection e'
          have J := S13.out.box
          rw [← HL.out] at J
          obtain ⟨j0, j1, jl⟩ := J
          obtain ⟨p0, p1, -, pl⟩ := P13.out.box
          have hsb : 0 ≤ str1 l x y ∧ str1 l x y ≤ 1 := by unfold str1; split <;> omega
          have hvx := HVB.out x hlx
          have HK1 := Lib.hid (fun W k => HKI.out x y hlx hly W k)
          have HS1 := Lib.hid (fun W k => HSI.out x y hlx hly W k)
          have HOR := Lib.hid (show okR l v' x y = (rel l x y == 0 || decide (v'.getD x 0 + str1 l x y ≤ v'.getD y 0)) from rfl)
          have HNX := Lib.hid (show (f && okR l v' x y) = (f0 && rowR l v' x (y + 1)) by rw [HRO.out, HF.out, Bool.and_assoc])
          rw [HOR.out] at HNX
          obtain ⟨r, hr⟩ : ∃ r, r = rel l x y := ⟨_, rfl⟩
          obtain ⟨s1, hs1⟩ : ∃ r, r = str1 l x y := ⟨_, rfl⟩
          obtain ⟨ux, hux⟩ : ∃ r, r = v'.getD x 0 := ⟨_, rfl⟩
          obtain ⟨uy, huy⟩ : ∃ r, r = v'.getD y 0 := ⟨_, rfl⟩
          rw [← hr] at HK1 HNX
          rw [← hs1] at HS1 HNX hsb
          rw [← hux] at cx HNX hvx
          rw [← huy] at cy HNX
          have ltx := lt_of_cell cx
          have lty := lt_of_cell cy
          have HPS := Lib.hid (fun (X : World) (hX : Below wr.heap.size wr X) => (show X.cell? ⟨b, 0, none⟩ = some (.slice jA L jc) ∧ X.cell? ⟨b, 1, none⟩ = some (.int .i64 wt) ∧ X.cell? ⟨g1, 1, none⟩ = some (.slice (some pad) L c') ∧ X.cell? (pad.add x) = some (.int .i64 ux) ∧ X.cell? (pad.add y) = some (.int .i64 uy) from
            ⟨(hX.cell (p := ⟨b, 0, none⟩) jl).trans j0, (hX.cell (p := ⟨b, 1, none⟩) jl).trans j1, (hX.cell (p := ⟨g1, 1, none⟩) pl).trans p1, (hX.cell ltx).trans cx, (hX.cell lty).trans cy⟩))
          have HIW := Lib.hid (fun (X : World) (hX : Below wr.heap.size wr X) => (S13.out.below hX).irow)
          have hxi : (x : Int) < (L : Int) := by omega
          have hyi : (y : Int) < (L : Int) := by omega
          clear e' hr hs1 hux huy ltx lty HF
          go_upto_region 23 with fail
          clear j0 j1 jl p0 p1 pl cx cy
          obtain ⟨q0, e0⟩ : ∃ x, x = wr.drew := ⟨_, rfl⟩
          have K0 := Lib.hid (show Below wr.heap.size wr q0 from by rw [e0]; exact (Below.refl _ _).drew)
          have F0 := HPS.out q0 K0.out
          have HE0 := Lib.hid e0
          clear e0
          refine AnyT.begin_at tlN (fun X => X.cell? ⟨b, 0, none⟩ = some (.slice jA L jc) ∧ X.cell? ⟨b, 1, none⟩ = some (.int .i64 wt) ∧ X.cell? ⟨g1, 1, none⟩ = some (.slice (some pad) L c') ∧ X.cell? (pad.add x) = some (.int .i64 ux) ∧ X.cell? (pad.add y) = some (.int .i64 uy)) (by kernel_rfl) HE0.out F0 ?_
          clear F0
          intro F0
          cases f
          · skip
-- TAKES T0
            refine AnyT.takeD (i := 0) (d := some 123) (v := .bool false) rfl rfl (by kernel_rfl) (by kernel_rfl) (by kernel_rfl) (by kernel_rfl) (fun _ _ _ h => h) (Or.inl ⟨by rfl, fun wz _ => by go_simp⟩) F0 ?_
            simp only [Act.put, List.setIfInBounds_toArray, List.set_cons_zero, List.set_cons_succ]
            refine AnyT.takeD (i := 1) (d := some 124) (v := .bool false) rfl rfl (by kernel_rfl) (by kernel_rfl) (by kernel_rfl) (by kernel_rfl) (fun _ _ _ h => h) (Or.inl ⟨by rfl, fun wz _ => by go_simp⟩) F0 ?_
            simp only [Act.put, List.setIfInBounds_toArray, List.set_cons_zero, List.set_cons_succ]
            refine AnyT.takeD (i := 2) (d := some 125) (v := undef) rfl rfl (by kernel_rfl) (by kernel_rfl) (by kernel_rfl) (by kernel_rfl) (fun _ _ _ h => h) (Or.inr ⟨by rfl, rfl⟩) F0 ?_
            simp only [Act.put, List.setIfInBounds_toArray, List.set_cons_zero, List.set_cons_succ]
            refine AnyT.takeD (i := 3) (d := some 126) (v := undef) rfl rfl (by kernel_rfl) (by kernel_rfl) (by kernel_rfl) (by kernel_rfl) (fun _ _ _ h => h) (Or.inr ⟨by rfl, rfl⟩) F0 ?_
            simp only [Act.put, List.setIfInBounds_toArray, List.set_cons_zero, List.set_cons_succ]
            refine AnyT.takeD (i := 4) (d := some 127) (v := undef) rfl rfl (by kernel_rfl) (by kernel_rfl) (by kernel_rfl) (by kernel_rfl) (fun _ _ _ h => h) (Or.inr ⟨by rfl, rfl⟩) F0 ?_
            simp only [Act.put, List.setIfInBounds_toArray, List.set_cons_zero, List.set_cons_succ]
            refine AnyT.takeD (i := 5) (d := some 128) (v := undef) rfl rfl (by kernel_rfl) (by kernel_rfl) (by kernel_rfl) (by kernel_rfl) (fun _ _ _ h => h) (Or.inr ⟨by rfl, rfl⟩) F0 ?_
            simp only [Act.put, List.setIfInBounds_toArray, List.set_cons_zero, List.set_cons_succ]
            refine AnyT.takeD (i := 6) (d := some 129) (v := undef) rfl rfl (by kernel_rfl) (by kernel_rfl) (by kernel_rfl) (by kernel_rfl) (fun _ _ _ h => h) (Or.inr ⟨by rfl, rfl⟩) F0 ?_
            simp only [Act.put, List.setIfInBounds_toArray, List.set_cons_zero, List.set_cons_succ]
            refine AnyT.takeD (i := 7) (d := some 130) (v := undef) rfl rfl (by kernel_rfl) (by kernel_rfl) (by kernel_rfl) (by kernel_rfl) (fun _ _ _ h => h) (Or.inr ⟨by rfl, rfl⟩) F0 ?_
            simp only [Act.put, List.setIfInBounds_toArray, List.set_cons_zero, List.set_cons_succ]
            refine AnyT.takeD (i := 8) (d := some 131) (v := undef) rfl rfl (by kernel_rfl) (by kernel_rfl) (by kernel_rfl) (by kernel_rfl) (fun _ _ _ h => h) (Or.inr ⟨by rfl, rfl⟩) F0 ?_
            simp only [Act.put, List.setIfInBounds_toArray, List.set_cons_zero, List.set_cons_succ]
            refine AnyT.takeD (i := 9) (d := some 132) (v := undef) rfl rfl (by kernel_rfl) (by kernel_rfl) (by kernel_rfl) (by kernel_rfl) (fun _ _ _ h => h) (Or.inr ⟨by rfl, rfl⟩) F0 ?_
            simp only [Act.put, List.setIfInBounds_toArray, List.set_cons_zero, List.set_cons_succ]
            refine AnyT.takeD (i := 10) (d := some 133) (v := undef) rfl rfl (by kernel_rfl) (by kernel_rfl) (by kernel_rfl) (by kernel_rfl) (fun _ _ _ h => h) (Or.inr ⟨by rfl, rfl⟩) F0 ?_
            simp only [Act.put, List.setIfInBounds_toArray, List.set_cons_zero, List.set_cons_succ]
            refine AnyT.takeD (i := 11) (d := some 134) (v := undef) rfl rfl (by kernel_rfl) (by kernel_rfl) (by kernel_rfl) (by kernel_rfl) (fun _ _ _ h => h) (Or.inr ⟨by rfl, rfl⟩) F0 ?_
            simp only [Act.put, List.setIfInBounds_toArray, List.set_cons_zero, List.set_cons_succ]
            refine AnyT.takeD (i := 12) (d := some 135) (v := undef) rfl rfl (by kernel_rfl) (by kernel_rfl) (by kernel_rfl) (by kernel_rfl) (fun _ _ _ h => h) (Or.inr ⟨by rfl, rfl⟩) F0 ?_
            simp only [Act.put, List.setIfInBounds_toArray, List.set_cons_zero, List.set_cons_succ]
            refine AnyT.takeD (i := 13) (d := some 136) (v := undef) rfl rfl (by kernel_rfl) (by kernel_rfl) (by kernel_rfl) (by kernel_rfl) (fun _ _ _ h => h) (Or.inr ⟨by rfl, rfl⟩) F0 ?_
            simp only [Act.put, List.setIfInBounds_toArray, List.set_cons_zero, List.set_cons_succ]
            refine AnyT.takeD (i := 14) (d := some 137) (v := undef) rfl rfl (by kernel_rfl) (by kernel_rfl) (by kernel_rfl) (by kernel_rfl) (fun _ _ _ h => h) (Or.inr ⟨by rfl, rfl⟩) F0 ?_
            simp only [Act.put, List.setIfInBounds_toArray, List.set_cons_zero, List.set_cons_succ]
            refine AnyT.takeD (i := 15) (d := some 138) (v := undef) rfl rfl (by kernel_rfl) (by kernel_rfl) (by kernel_rfl) (by kernel_rfl) (fun _ _ _ h => h) (Or.inr ⟨by rfl, rfl⟩) F0 ?_
            simp only [Act.put, List.setIfInBounds_toArray, List.set_cons_zero, List.set_cons_succ]
            refine AnyT.takeD (i := 16) (d := some 139) (v := undef) rfl rfl (by kernel_rfl) (by kernel_rfl) (by kernel_rfl) (by kernel_rfl) (fun _ _ _ h => h) (Or.inr ⟨by rfl, rfl⟩) F0 ?_
            simp only [Act.put, List.setIfInBounds_toArray, List.set_cons_zero, List.set_cons_succ]
            refine AnyT.takeD (i := 17) (d := some 140) (v := undef) rfl rfl (by kernel_rfl) (by kernel_rfl) (by kernel_rfl) (by kernel_rfl) (fun _ _ _ h => h) (Or.inr ⟨by rfl, rfl⟩) F0 ?_
            simp only [Act.put, List.setIfInBounds_toArray, List.set_cons_zero, List.set_cons_succ]
            refine AnyT.takeD (i := 18) (d := some 141) (v := undef) rfl rfl (by kernel_rfl) (by kernel_rfl) (by kernel_rfl) (by kernel_rfl) (fun _ _ _ h => h) (Or.inr ⟨by rfl, rfl⟩) F0 ?_
            simp only [Act.put, List.setIfInBounds_toArray, List.set_cons_zero, List.set_cons_succ]
            refine AnyT.takeD (i := 19) (d := some 142) (v := undef) rfl rfl (by kernel_rfl) (by kernel_rfl) (by kernel_rfl) (by kernel_rfl) (fun _ _ _ h => h) (Or.inr ⟨by rfl, rfl⟩) F0 ?_
            simp only [Act.put, List.setIfInBounds_toArray, List.set_cons_zero, List.set_cons_succ]
            refine AnyT.takeD (i := 20) (d := some 143) (v := undef) rfl rfl (by kernel_rfl) (by kernel_rfl) (by kernel_rfl) (by kernel_rfl) (fun _ _ _ h => h) (Or.inr ⟨by rfl, rfl⟩) F0 ?_
            simp only [Act.put, List.setIfInBounds_toArray, List.set_cons_zero, List.set_cons_succ]
            refine AnyT.takeD (i := 21) (d := some 144) (v := undef) rfl rfl (by kernel_rfl) (by kernel_rfl) (by kernel_rfl) (by kernel_rfl) (fun _ _ _ h => h) (Or.inr ⟨by rfl, rfl⟩) F0 ?_
            simp only [Act.put, List.setIfInBounds_toArray, List.set_cons_zero, List.set_cons_succ]
            refine AnyT.takeD (i := 22) (d := some 145) (v := undef) rfl rfl (by kernel_rfl) (by kernel_rfl) (by kernel_rfl) (by kernel_rfl) (fun _ _ _ h => h) (Or.inr ⟨by rfl, rfl⟩) F0 ?_
            simp only [Act.put, List.setIfInBounds_toArray, List.set_cons_zero, List.set_cons_succ]
            refine AnyT.takeD (i := 23) (d := some 146) (v := undef) rfl rfl (by kernel_rfl) (by kernel_rfl) (by kernel_rfl) (by kernel_rfl) (fun _ _ _ h => h) (Or.inr ⟨by rfl, rfl⟩) F0 ?_
            simp only [Act.put, List.setIfInBounds_toArray, List.set_cons_zero, List.set_cons_succ]
            refine AnyT.takeD (i := 24) (d := some 147) (v := undef) rfl rfl (by kernel_rfl) (by kernel_rfl) (by kernel_rfl) (by kernel_rfl) (fun _ _ _ h => h) (Or.inr ⟨by rfl, rfl⟩) F0 ?_
            simp only [Act.put, List.setIfInBounds_toArray, List.set_cons_zero, List.set_cons_succ]
            refine AnyT.takeD (i := 25) (d := some 148) (v := .bool false) rfl rfl (by kernel_rfl) (by kernel_rfl) (by kernel_rfl) (by kernel_rfl) (fun _ _ _ h => h) (Or.inl ⟨by rfl, fun wz _ => by go_simp⟩) F0 ?_
            simp only [Act.put, List.setIfInBounds_toArray, List.set_cons_zero, List.set_cons_succ]
            refine AnyT.takeD (i := 26) (d := some 15) (v := .bool false) rfl rfl (by kernel_rfl) (by kernel_rfl) (by kernel_rfl) (by kernel_rfl) (fun _ _ _ h => h) (Or.inl ⟨by rfl, fun wz _ => by go_simp⟩) F0 ?_
            simp only [Act.put, List.setIfInBounds_toArray, List.set_cons_zero, List.set_cons_succ]
            -- TAKEN T0
            refine AnyT.done_ (by kernel_rfl) ?_ _
            have BR1 := Lib.hid (BI.out.trans (K0.out.mono BI.out.size))
            clear F0 HPS HE0 K0 HS1 HK1 HIW
            go_wp2_with fail
            go_roundw
            case rel => exact ⟨y + 1, false, by omega, rfl, by go_num, Lib.hid (by rw [← HNX.out]; rfl), BR1⟩
            case measure => simp [intOf]; omega
          · skip
-- TAKES T1
            refine AnyT.takeD (i := 0) (d := some 123) (v := .bool true) rfl rfl (by kernel_rfl) (by kernel_rfl) (by kernel_rfl) (by kernel_rfl) (fun _ _ _ h => h) (Or.inl ⟨by rfl, fun wz _ => by go_simp⟩) F0 ?_
            simp only [Act.put, List.setIfInBounds_toArray, List.set_cons_zero, List.set_cons_succ]
            refine AnyT.takeD (i := 1) (d := some 124) (v := .bool true) rfl rfl (by kernel_rfl) (by kernel_rfl) (by kernel_rfl) (by kernel_rfl) (fun _ _ _ h => h) (Or.inl ⟨by rfl, fun wz _ => by go_simp⟩) F0 ?_
            simp only [Act.put, List.setIfInBounds_toArray, List.set_cons_zero, List.set_cons_succ]
            refine AnyT.takeD (i := 2) (d := some 125) (v := jv jA L jc wt) rfl rfl (by kernel_rfl) (by kernel_rfl) (by kernel_rfl) (by kernel_rfl) (fun _ _ _ h => h) (Or.inl ⟨by rfl, fun wz hz => by obtain ⟨z0, z1, z2, z3, z4⟩ := hz; go_simp⟩) F0 ?_
            simp only [Act.put, List.setIfInBounds_toArray, List.set_cons_zero, List.set_cons_succ]
            refine AnyT.takeD (i := 3) (d := some 126) (v := .int .i64 (x : Int)) rfl rfl (by kernel_rfl) (by kernel_rfl) (by kernel_rfl) (by kernel_rfl) (fun _ _ _ h => h) (Or.inl ⟨by rfl, fun wz _ => by go_simp⟩) F0 ?_
            simp only [Act.put, List.setIfInBounds_toArray, List.set_cons_zero, List.set_cons_succ]
            refine AnyT.takeD (i := 4) (d := some 127) (v := .int .i64 (y : Int)) rfl rfl (by kernel_rfl) (by kernel_rfl) (by kernel_rfl) (by kernel_rfl) (fun _ _ _ h => h) (Or.inl ⟨by rfl, fun wz _ => by go_simp⟩) F0 ?_
            simp only [Act.put, List.setIfInBounds_toArray, List.set_cons_zero, List.set_cons_succ]
            -- TAKEN T1
            refine AnyT.branch (rs := [5]) (by kernel_rfl) (by simp) ?_
            refine all_cons (?_) all_nil
            refine AnyT.enterG (i := 5) (d := some 128) (f := 26) (args := #[jv jA L jc wt, .int .i64 (x : Int), .int .i64 (y : Int)]) rfl (by rfl) rfl (by go_simp) (HK1.out q0 (HIW.out q0 K0.out)) ?_
            rintro e q1 ⟨rfl, hB1⟩
            have K1 := Lib.hid (K0.out.trans (hB1.mono K0.out.size))
            have F1 := HPS.out q1 K1.out
            refine ⟨_, rfl, fun _ => F1, ?_⟩
            clear hB1 F0 HK1
            simp only [Act.put, List.setIfInBounds_toArray, List.set_cons_zero, List.set_cons_succ]
            by_cases hr0 : r = 0
            · subst hr0
-- TAKES T2
              refine AnyT.takeD (i := 6) (d := some 129) (v := .bool true) rfl rfl (by kernel_rfl) (by kernel_rfl) (by kernel_rfl) (by kernel_rfl) (fun _ _ _ h => h) (Or.inl ⟨by rfl, fun wz _ => by go_simp⟩) F1 ?_
              simp only [Act.put, List.setIfInBounds_toArray, List.set_cons_zero, List.set_cons_succ]
              refine AnyT.takeD (i := 7) (d := some 130) (v := .bool true) rfl rfl (by kernel_rfl) (by kernel_rfl) (by kernel_rfl) (by kernel_rfl) (fun _ _ _ h => h) (Or.inl ⟨by rfl, fun wz _ => by go_simp⟩) F1 ?_
              simp only [Act.put, List.setIfInBounds_toArray, List.set_cons_zero, List.set_cons_succ]
              refine AnyT.takeD (i := 8) (d := some 131) (v := undef) rfl rfl (by kernel_rfl) (by kernel_rfl) (by kernel_rfl) (by kernel_rfl) (fun _ _ _ h => h) (Or.inr ⟨by rfl, rfl⟩) F1 ?_
              simp only [Act.put, List.setIfInBounds_toArray, List.set_cons_zero, List.set_cons_succ]
              refine AnyT.takeD (i := 9) (d := some 132) (v := undef) rfl rfl (by kernel_rfl) (by kernel_rfl) (by kernel_rfl) (by kernel_rfl) (fun _ _ _ h => h) (Or.inr ⟨by rfl, rfl⟩) F1 ?_
              simp only [Act.put, List.setIfInBounds_toArray, List.set_cons_zero, List.set_cons_succ]
              refine AnyT.takeD (i := 10) (d := some 133) (v := undef) rfl rfl (by kernel_rfl) (by kernel_rfl) (by kernel_rfl) (by kernel_rfl) (fun _ _ _ h => h) (Or.inr ⟨by rfl, rfl⟩) F1 ?_
              simp only [Act.put, List.setIfInBounds_toArray, List.set_cons_zero, List.set_cons_succ]
              refine AnyT.takeD (i := 11) (d := some 134) (v := undef) rfl rfl (by kernel_rfl) (by kernel_rfl) (by kernel_rfl) (by kernel_rfl) (fun _ _ _ h => h) (Or.inr ⟨by rfl, rfl⟩) F1 ?_
              simp only [Act.put, List.setIfInBounds_toArray, List.set_cons_zero, List.set_cons_succ]
              refine AnyT.takeD (i := 12) (d := some 135) (v := undef) rfl rfl (by kernel_rfl) (by kernel_rfl) (by kernel_rfl) (by kernel_rfl) (fun _ _ _ h => h) (Or.inr ⟨by rfl, rfl⟩) F1 ?_
              simp only [Act.put, List.setIfInBounds_toArray, List.set_cons_zero, List.set_cons_succ]
              refine AnyT.takeD (i := 13) (d := some 136) (v := undef) rfl rfl (by kernel_rfl) (by kernel_rfl) (by kernel_rfl) (by kernel_rfl) (fun _ _ _ h => h) (Or.inr ⟨by rfl, rfl⟩) F1 ?_
              simp only [Act.put, List.setIfInBounds_toArray, List.set_cons_zero, List.set_cons_succ]
              refine AnyT.takeD (i := 14) (d := some 137) (v := undef) rfl rfl (by kernel_rfl) (by kernel_rfl) (by kernel_rfl) (by kernel_rfl) (fun _ _ _ h => h) (Or.inr ⟨by rfl, rfl⟩) F1 ?_
              simp only [Act.put, List.setIfInBounds_toArray, List.set_cons_zero, List.set_cons_succ]
              refine AnyT.takeD (i := 15) (d := some 138) (v := undef) rfl rfl (by kernel_rfl) (by kernel_rfl) (by kernel_rfl) (by kernel_rfl) (fun _ _ _ h => h) (Or.inr ⟨by rfl, rfl⟩) F1 ?_
              simp only [Act.put, List.setIfInBounds_toArray, List.set_cons_zero, List.set_cons_succ]
              refine AnyT.takeD (i := 16) (d := some 139) (v := undef) rfl rfl (by kernel_rfl) (by kernel_rfl) (by kernel_rfl) (by kernel_rfl) (fun _ _ _ h => h) (Or.inr ⟨by rfl, rfl⟩) F1 ?_
              simp only [Act.put, List.setIfInBounds_toArray, List.set_cons_zero, List.set_cons_succ]
              refine AnyT.takeD (i := 17) (d := some 140) (v := undef) rfl rfl (by kernel_rfl) (by kernel_rfl) (by kernel_rfl) (by kernel_rfl) (fun _ _ _ h => h) (Or.inr ⟨by rfl, rfl⟩) F1 ?_
              simp only [Act.put, List.setIfInBounds_toArray, List.set_cons_zero, List.set_cons_succ]
              refine AnyT.takeD (i := 18) (d := some 141) (v := undef) rfl rfl (by kernel_rfl) (by kernel_rfl) (by kernel_rfl) (by kernel_rfl) (fun _ _ _ h => h) (Or.inr ⟨by rfl, rfl⟩) F1 ?_
              simp only [Act.put, List.setIfInBounds_toArray, List.set_cons_zero, List.set_cons_succ]
              refine AnyT.takeD (i := 19) (d := some 142) (v := undef) rfl rfl (by kernel_rfl) (by kernel_rfl) (by kernel_rfl) (by kernel_rfl) (fun _ _ _ h => h) (Or.inr ⟨by rfl, rfl⟩) F1 ?_
              simp only [Act.put, List.setIfInBounds_toArray, List.set_cons_zero, List.set_cons_succ]
              refine AnyT.takeD (i := 20) (d := some 143) (v := undef) rfl rfl (by kernel_rfl) (by kernel_rfl) (by kernel_rfl) (by kernel_rfl) (fun _ _ _ h => h) (Or.inr ⟨by rfl, rfl⟩) F1 ?_
              simp only [Act.put, List.setIfInBounds_toArray, List.set_cons_zero, List.set_cons_succ]
              refine AnyT.takeD (i := 21) (d := some 144) (v := undef) rfl rfl (by kernel_rfl) (by kernel_rfl) (by kernel_rfl) (by kernel_rfl) (fun _ _ _ h => h) (Or.inr ⟨by rfl, rfl⟩) F1 ?_
              simp only [Act.put, List.setIfInBounds_toArray, List.set_cons_zero, List.set_cons_succ]
              refine AnyT.takeD (i := 22) (d := some 145) (v := undef) rfl rfl (by kernel_rfl) (by kernel_rfl) (by kernel_rfl) (by kernel_rfl) (fun _ _ _ h => h) (Or.inr ⟨by rfl, rfl⟩) F1 ?_
              simp only [Act.put, List.setIfInBounds_toArray, List.set_cons_zero, List.set_cons_succ]
              refine AnyT.takeD (i := 23) (d := some 146) (v := undef) rfl rfl (by kernel_rfl) (by kernel_rfl) (by kernel_rfl) (by kernel_rfl) (fun _ _ _ h => h) (Or.inr ⟨by rfl, rfl⟩) F1 ?_
              simp only [Act.put, List.setIfInBounds_toArray, List.set_cons_zero, List.set_cons_succ]
              refine AnyT.takeD (i := 24) (d := some 147) (v := .bool true) rfl rfl (by kernel_rfl) (by kernel_rfl) (by kernel_rfl) (by kernel_rfl) (fun _ _ _ h => h) (Or.inl ⟨by rfl, fun wz _ => by go_simp⟩) F1 ?_
              simp only [Act.put, List.setIfInBounds_toArray, List.set_cons_zero, List.set_cons_succ]
              refine AnyT.takeD (i := 25) (d := some 148) (v := .bool true) rfl rfl (by kernel_rfl) (by kernel_rfl) (by kernel_rfl) (by kernel_rfl) (fun _ _ _ h => h) (Or.inl ⟨by rfl, fun wz _ => by go_simp⟩) F1 ?_
              simp only [Act.put, List.setIfInBounds_toArray, List.set_cons_zero, List.set_cons_succ]
              refine AnyT.takeD (i := 26) (d := some 15) (v := .bool true) rfl rfl (by kernel_rfl) (by kernel_rfl) (by kernel_rfl) (by kernel_rfl) (fun _ _ _ h => h) (Or.inl ⟨by rfl, fun wz _ => by go_simp⟩) F1 ?_
              simp only [Act.put, List.setIfInBounds_toArray, List.set_cons_zero, List.set_cons_succ]
              -- TAKEN T2
              refine AnyT.done_ (by kernel_rfl) ?_ _
              have BR1 := Lib.hid (BI.out.trans (K1.out.mono BI.out.size))
              clear F1 HPS HE0 K0 K1 HS1 HIW
              go_wp2_with fail
              go_roundw
              case rel => exact ⟨y + 1, true, by omega, rfl, by go_num, Lib.hid (by rw [← HNX.out]; rfl), BR1⟩
              case measure => simp [intOf]; omega
            · have hrz : (r == 0) = false := by simpa using hr0
              have hwr : IntKind.i64.wrap (ux + s1) = ux + s1 := IntWalk.i64_in _ (by omega)
-- TAKES T3
              refine AnyT.takeD (i := 6) (d := some 129) (v := .bool false) rfl rfl (by kernel_rfl) (by kernel_rfl) (by kernel_rfl) (by kernel_rfl) (fun _ _ _ h => h) (Or.inl ⟨by rfl, fun wz _ => by go_simp⟩) F1 ?_
              simp only [Act.put, List.setIfInBounds_toArray, List.set_cons_zero, List.set_cons_succ]
              refine AnyT.takeD (i := 7) (d := some 130) (v := .bool false) rfl rfl (by kernel_rfl) (by kernel_rfl) (by kernel_rfl) (by kernel_rfl) (fun _ _ _ h => h) (Or.inl ⟨by rfl, fun wz _ => by go_simp⟩) F1 ?_
              simp only [Act.put, List.setIfInBounds_toArray, List.set_cons_zero, List.set_cons_succ]
              refine AnyT.takeD (i := 8) (d := some 131) (v := .pointer (some ⟨g1, 1, none⟩)) rfl rfl (by kernel_rfl) (by kernel_rfl) (by kernel_rfl) (by kernel_rfl) (fun _ _ _ h => h) (Or.inl ⟨by rfl, fun wz _ => by go_simp⟩) F1 ?_
              simp only [Act.put, List.setIfInBounds_toArray, List.set_cons_zero, List.set_cons_succ]
              refine AnyT.takeD (i := 9) (d := some 132) (v := .slice (some pad) L c') rfl rfl (by kernel_rfl) (by kernel_rfl) (by kernel_rfl) (by kernel_rfl) (fun _ _ _ h => h) (Or.inl ⟨by rfl, fun wz hz => by obtain ⟨z0, z1, z2, z3, z4⟩ := hz; go_simp⟩) F1 ?_
              simp only [Act.put, List.setIfInBounds_toArray, List.set_cons_zero, List.set_cons_succ]
              refine AnyT.takeD (i := 10) (d := some 133) (v := .int .i64 (x : Int)) rfl rfl (by kernel_rfl) (by kernel_rfl) (by kernel_rfl) (by kernel_rfl) (fun _ _ _ h => h) (Or.inl ⟨by rfl, fun wz _ => by go_simp⟩) F1 ?_
              simp only [Act.put, List.setIfInBounds_toArray, List.set_cons_zero, List.set_cons_succ]
              refine AnyT.takeD (i := 11) (d := some 134) (v := .pointer (some (pad.add x))) rfl rfl (by kernel_rfl) (by kernel_rfl) (by kernel_rfl) (by kernel_rfl) (fun _ _ _ h => h) (Or.inl ⟨by rfl, fun wz _ => by go_simp⟩) F1 ?_
              simp only [Act.put, List.setIfInBounds_toArray, List.set_cons_zero, List.set_cons_succ]
              refine AnyT.takeD (i := 12) (d := some 135) (v := .int .i64 ux) rfl rfl (by kernel_rfl) (by kernel_rfl) (by kernel_rfl) (by kernel_rfl) (fun _ _ _ h => h) (Or.inl ⟨by rfl, fun wz hz => by obtain ⟨z0, z1, z2, z3, z4⟩ := hz; go_simp⟩) F1 ?_
              simp only [Act.put, List.setIfInBounds_toArray, List.set_cons_zero, List.set_cons_succ]
              refine AnyT.takeD (i := 13) (d := some 136) (v := jv jA L jc wt) rfl rfl (by kernel_rfl) (by kernel_rfl) (by kernel_rfl) (by kernel_rfl) (fun _ _ _ h => h) (Or.inl ⟨by rfl, fun wz hz => by obtain ⟨z0, z1, z2, z3, z4⟩ := hz; go_simp⟩) F1 ?_
              simp only [Act.put, List.setIfInBounds_toArray, List.set_cons_zero, List.set_cons_succ]
              refine AnyT.takeD (i := 14) (d := some 137) (v := .int .i64 (x : Int)) rfl rfl (by kernel_rfl) (by kernel_rfl) (by kernel_rfl) (by kernel_rfl) (fun _ _ _ h => h) (Or.inl ⟨by rfl, fun wz _ => by go_simp⟩) F1 ?_
              simp only [Act.put, List.setIfInBounds_toArray, List.set_cons_zero, List.set_cons_succ]
              refine AnyT.takeD (i := 15) (d := some 138) (v := .int .i64 (y : Int)) rfl rfl (by kernel_rfl) (by kernel_rfl) (by kernel_rfl) (by kernel_rfl) (fun _ _ _ h => h) (Or.inl ⟨by rfl, fun wz _ => by go_simp⟩) F1 ?_
              simp only [Act.put, List.setIfInBounds_toArray, List.set_cons_zero, List.set_cons_succ]
              refine AnyT.takeD (i := 18) (d := some 141) (v := .pointer (some ⟨g1, 1, none⟩)) rfl rfl (by kernel_rfl) (by kernel_rfl) (by kernel_rfl) (by kernel_rfl) (fun _ _ _ h => h) (Or.inl ⟨by rfl, fun wz _ => by go_simp⟩) F1 ?_
              simp only [Act.put, List.setIfInBounds_toArray, List.set_cons_zero, List.set_cons_succ]
              refine AnyT.takeD (i := 19) (d := some 142) (v := .slice (some pad) L c') rfl rfl (by kernel_rfl) (by kernel_rfl) (by kernel_rfl) (by kernel_rfl) (fun _ _ _ h => h) (Or.inl ⟨by rfl, fun wz hz => by obtain ⟨z0, z1, z2, z3, z4⟩ := hz; go_simp⟩) F1 ?_
              simp only [Act.put, List.setIfInBounds_toArray, List.set_cons_zero, List.set_cons_succ]
              refine AnyT.takeD (i := 20) (d := some 143) (v := .int .i64 (y : Int)) rfl rfl (by kernel_rfl) (by kernel_rfl) (by kernel_rfl) (by kernel_rfl) (fun _ _ _ h => h) (Or.inl ⟨by rfl, fun wz _ => by go_simp⟩) F1 ?_
              simp only [Act.put, List.setIfInBounds_toArray, List.set_cons_zero, List.set_cons_succ]
              refine AnyT.takeD (i := 21) (d := some 144) (v := .pointer (some (pad.add y))) rfl rfl (by kernel_rfl) (by kernel_rfl) (by kernel_rfl) (by kernel_rfl) (fun _ _ _ h => h) (Or.inl ⟨by rfl, fun wz _ => by go_simp⟩) F1 ?_
              simp only [Act.put, List.setIfInBounds_toArray, List.set_cons_zero, List.set_cons_succ]
              refine AnyT.takeD (i := 22) (d := some 145) (v := .int .i64 uy) rfl rfl (by kernel_rfl) (by kernel_rfl) (by kernel_rfl) (by kernel_rfl) (fun _ _ _ h => h) (Or.inl ⟨by rfl, fun wz hz => by obtain ⟨z0, z1, z2, z3, z4⟩ := hz; go_simp⟩) F1 ?_
              simp only [Act.put, List.setIfInBounds_toArray, List.set_cons_zero, List.set_cons_succ]
              -- TAKEN T3
              refine AnyT.branch (rs := [16]) (by kernel_rfl) (by simp) ?_
              refine all_cons (?_) all_nil
              refine AnyT.enterG (i := 16) (d := some 139) (f := 27) (args := #[jv jA L jc wt, .int .i64 (x : Int), .int .i64 (y : Int)]) rfl (by rfl) rfl (by go_simp) (HS1.out q1 (HIW.out q1 K1.out)) ?_
              rintro e q2 ⟨rfl, hB2⟩
              have K2 := Lib.hid (K1.out.trans (hB2.mono K1.out.size))
              have F2 := HPS.out q2 K2.out
              refine ⟨_, rfl, fun _ => F2, ?_⟩
              clear hB2 F1 HS1
              simp only [Act.put, List.setIfInBounds_toArray, List.set_cons_zero, List.set_cons_succ]
              have BR1 := Lib.hid (BI.out.trans (K2.out.mono BI.out.size))
              rw [hrz] at HNX
              by_cases hle : ux + s1 ≤ uy
              · have HN1 := Lib.hid (show true = (f0 && rowR l v' x (y + 1)) by rw [← HNX.out, decide_eq_true hle]; rfl)
-- TAKES T4
                refine AnyT.takeD (i := 17) (d := some 140) (v := .int .i64 (ux + s1)) rfl rfl (by kernel_rfl) (by kernel_rfl) (by kernel_rfl) (by kernel_rfl) (fun _ _ _ h => h) (Or.inl ⟨by rfl, fun wz _ => by go_simp⟩) F2 ?_
                simp only [Act.put, List.setIfInBounds_toArray, List.set_cons_zero, List.set_cons_succ]
                refine AnyT.takeD (i := 23) (d := some 146) (v := .bool true) rfl rfl (by kernel_rfl) (by kernel_rfl) (by kernel_rfl) (by kernel_rfl) (fun _ _ _ h => h) (Or.inl ⟨by rfl, fun wz _ => by go_simp⟩) F2 ?_
                simp only [Act.put, List.setIfInBounds_toArray, List.set_cons_zero, List.set_cons_succ]
                refine AnyT.takeD (i := 24) (d := some 147) (v := .bool true) rfl rfl (by kernel_rfl) (by kernel_rfl) (by kernel_rfl) (by kernel_rfl) (fun _ _ _ h => h) (Or.inl ⟨by rfl, fun wz _ => by go_simp⟩) F2 ?_
                simp only [Act.put, List.setIfInBounds_toArray, List.set_cons_zero, List.set_cons_succ]
                refine AnyT.takeD (i := 25) (d := some 148) (v := .bool true) rfl rfl (by kernel_rfl) (by kernel_rfl) (by kernel_rfl) (by kernel_rfl) (fun _ _ _ h => h) (Or.inl ⟨by rfl, fun wz _ => by go_simp⟩) F2 ?_
                simp only [Act.put, List.setIfInBounds_toArray, List.set_cons_zero, List.set_cons_succ]
                refine AnyT.takeD (i := 26) (d := some 15) (v := .bool true) rfl rfl (by kernel_rfl) (by kernel_rfl) (by kernel_rfl) (by kernel_rfl) (fun _ _ _ h => h) (Or.inl ⟨by rfl, fun wz _ => by go_simp⟩) F2 ?_
                simp only [Act.put, List.setIfInBounds_toArray, List.set_cons_zero, List.set_cons_succ]
                -- TAKEN T4
                refine AnyT.done_ (by kernel_rfl) ?_ _
                clear F2 HPS HE0 K0 K1 K2 HIW hwr hrz hle HNX hr0
                go_wp2_with fail
                go_roundw
                case rel => exact ⟨y + 1, true, by omega, rfl, by go_num, HN1, BR1⟩
                case measure => simp [intOf]; omega
              · have HN1 := Lib.hid (show false = (f0 && rowR l v' x (y + 1)) by rw [← HNX.out, decide_eq_false hle]; rfl)
-- TAKES T5
                refine AnyT.takeD (i := 17) (d := some 140) (v := .int .i64 (ux + s1)) rfl rfl (by kernel_rfl) (by kernel_rfl) (by kernel_rfl) (by kernel_rfl) (fun _ _ _ h => h) (Or.inl ⟨by rfl, fun wz _ => by go_simp⟩) F2 ?_
                simp only [Act.put, List.setIfInBounds_toArray, List.set_cons_zero, List.set_cons_succ]
                refine AnyT.takeD (i := 23) (d := some 146) (v := .bool false) rfl rfl (by kernel_rfl) (by kernel_rfl) (by kernel_rfl) (by kernel_rfl) (fun _ _ _ h => h) (Or.inl ⟨by rfl, fun wz _ => by go_simp⟩) F2 ?_
                simp only [Act.put, List.setIfInBounds_toArray, List.set_cons_zero, List.set_cons_succ]
                refine AnyT.takeD (i := 24) (d := some 147) (v := .bool false) rfl rfl (by kernel_rfl) (by kernel_rfl) (by kernel_rfl) (by kernel_rfl) (fun _ _ _ h => h) (Or.inl ⟨by rfl, fun wz _ => by go_simp⟩) F2 ?_
                simp only [Act.put, List.setIfInBounds_toArray, List.set_cons_zero, List.set_cons_succ]
                refine AnyT.takeD (i := 25) (d := some 148) (v := .bool false) rfl rfl (by kernel_rfl) (by kernel_rfl) (by kernel_rfl) (by kernel_rfl) (fun _ _ _ h => h) (Or.inl ⟨by rfl, fun wz _ => by go_simp⟩) F2 ?_
                simp only [Act.put, List.setIfInBounds_toArray, List.set_cons_zero, List.set_cons_succ]
                refine AnyT.takeD (i := 26) (d := some 15) (v := .bool false) rfl rfl (by kernel_rfl) (by kernel_rfl) (by kernel_rfl) (by kernel_rfl) (fun _ _ _ h => h) (Or.inl ⟨by rfl, fun wz _ => by go_simp⟩) F2 ?_
                simp only [Act.put, List.setIfInBounds_toArray, List.set_cons_zero, List.set_cons_succ]
                -- TAKEN T5
                refine AnyT.done_ (by kernel_rfl) ?_ _
                clear F2 HPS HE0 K0 K1 K2 HIW hwr hrz hle HNX hr0
                go_wp2_with fail
                go_roundw
                case rel => exact ⟨y + 1, false, by omega, rfl, by go_num, HN1, BR1⟩
                case measure => simp [intOf]; omega
        · have hyL : y = L := by omega
          have hyi : ¬ (y : Int) < (L : Int) := by omega
          have HN1 := Lib.hid (show f = allR l v' (x + 1) by rw [HAL.out, HF.out, HF0.out, hyL])
          clear hyL hly
          go_wp2_with fail
          go_roundw
          case rel => exact ⟨x + 1, f, by omega, rfl, by go_num, HN1, BI⟩
          case measure => simp [intOf]; omega
    · have hxL : x = L := by omega
      have hxi : ¬ (x : Int) < (L : Int) := by omega
      have hof : ok = f0 := by rw [HOK.out, HF0.out, hxL]
      subst hof
      have hoo : (ok == ok) = true := by simp
      have HB := Lib.hid (S12.out.below BR.out).bel
      clear hxL hlx
      go_wp2_with fail
      refine (sane14_any _).mono ?_
      rintro e wz ⟨rfl, BZ⟩
      have HZ := Lib.hid (HB.out.trans (BZ.mono HB.out.size))
      clear BZ
      go_wp2_with fail
      go_ret
      exact ⟨rfl, HZ.out⟩
theorem sor_law (a : Option Addr) (len cap : Nat) (zs : List Int) (w : World) (h : IsRow .i64 w a len cap zs) :
    Calls Try.prog 6 #[.slice a len cap] w fun e w' => e = .returned (.bool true) ∧ Below w.heap.size w w' := by
  obtain ⟨l, rfl, h1, h2, h3⟩ := h.row
  exact sor_walk a cap l w h1 h2 h3
end Go.Proofs.Ytkopbnppjhdbgaa
