/-
  ZSorT, PU, GV, ASan, APos, ALst, ADuW, AMoW: joined.
-/
import Derived.Test.YtimkmieohkefiaaGreatBA1
import Derived.Test.YtimkmieohkefiaaGreatBA2
import Derived.Test.YtimkmieohkefiaaGreatBA3
import Derived.Test.YtimkmieohkefiaaGreatBA4
set_option linter.unusedSimpArgs false
set_option linter.unusedVariables false
namespace Go.Proofs.YtimkmieohkefiaaGreat
open Go.RowKit Go.Lib

def sortE (l : List It) (wt : Int) (ts : List (List Int)) : Bool × Int := if validR l wt = 0 then (sortedB l ts, 0) else (false, validR l wt)
abbrev RB (t : Bool × Int) : Value := .tuple #[.bool t.1, .int .i64 t.2]
theorem ret_rb {a : Bool} {b : Int} {t : Bool × Int} (h : t = (a, b)) : Ending.returned (.tuple #[.bool a, .int .i64 b]) = .returned (RB t) := by rw [h]
theorem goT_no {l : List It} {t : Int} {s : List Bool} {p : List Int} {r : List (List Int)} (h : goL l t none s p = none) : goT l t s (p :: r) = none := by
  show (match goL l t none s p with | none => none | some s => goT l (t + 1) s r) = none
  rw [h]
theorem goT_ok {l : List It} {t : Int} {s s' : List Bool} {p : List Int} {r : List (List Int)} (h : goL l t none s p = some s') : goT l t s (p :: r) = goT l (t + 1) s' r := by
  show (match goL l t none s p with | none => none | some s => goT l (t + 1) s r) = _
  rw [h]
theorem sortedB_no {l : List It} {ts : List (List Int)} (h : goT l 0 (List.replicate l.length false) ts = none) : sortedB l ts = false := by
  unfold sortedB; rw [h]
theorem sortedB_some {l : List It} {ts : List (List Int)} {s : List Bool} (h : goT l 0 (List.replicate l.length false) ts = some s) : sortedB l ts = !hasF s := by
  unfold sortedB; rw [h]
theorem prvS_succ (p : List Int) (n : Nat) : prvS p (n + 1) = some (p.getD n 0) := rfl
theorem step_index {l : List It} {t : Int} {prev : Option Int} {s : List Bool} {x : Int} (h : btw x 0 ((l.length : Int) - 1) = false) : stepOk l t prev s x = false := by
  unfold stepOk; rw [h]; rfl
theorem step_seen {l : List It} {t : Int} {prev : Option Int} {s : List Bool} {x : Int} (h : s.getD x.toNat false = true) : stepOk l t prev s x = false := by
  unfold stepOk; rw [h]; simp
theorem step_train {l : List It} {t : Int} {prev : Option Int} {s : List Bool} {x : Int} (h : trn l x.toNat ≠ t) : stepOk l t prev s x = false := by
  unfold stepOk; rw [decide_eq_false h]; simp
theorem step_first {l : List It} {t : Int} {s : List Bool} {x : Int} (h1 : btw x 0 ((l.length : Int) - 1) = true) (h2 : s.getD x.toNat false = false) (h3 : trn l x.toNat = t) : stepOk l t none s x = true := by
  unfold stepOk; rw [h1, h2, decide_eq_true h3]; rfl
theorem step_next {l : List It} {t : Int} {s : List Bool} {x y : Int} (h1 : btw x 0 ((l.length : Int) - 1) = true) (h2 : s.getD x.toNat false = false) (h3 : trn l x.toNat = t) : stepOk l t (some y) s x = !decide (blk l x.toNat < blk l y.toNat) := by
  unfold stepOk; rw [h1, h2, decide_eq_true h3]; rfl
/-- What is known while a list is read. -/
structure Inn (l : List It) (t : Int) (s0 s : List Bool) (p : List Int) (n : Nat) : Prop where
  eq : goL l t none s0 p = goL l t (prvS p n) s (p.drop n)
  len : s.length = l.length
  prev : ∀ y, prvS p n = some y → btw y 0 ((l.length : Int) - 1) = true
theorem Inn.ok {l : List It} {t : Int} {s0 s : List Bool} {p : List Int} {n : Nat} (h : Inn l t s0 s p n) (hn : n < p.length) (hx : btw (p.getD n 0) 0 ((l.length : Int) - 1) = true) (hs : stepOk l t (prvS p n) s (p.getD n 0) = true) : Inn l t s0 (s.set (p.getD n 0).toNat true) p (n + 1) := by
  refine ⟨?_, by rw [List.length_set]; exact h.len, fun y hy => ?_⟩
  · rw [h.eq, drop_any 0 hn, goL_ok hs]; rfl
  · rw [prvS_succ] at hy; injection hy with hy; rw [← hy]; exact hx
theorem Inn.no {l : List It} {t : Int} {s0 s : List Bool} {p : List Int} {n : Nat} (h : Inn l t s0 s p n) (hn : n < p.length) (hs : stepOk l t (prvS p n) s (p.getD n 0) = false) : goL l t none s0 p = none := by
  rw [h.eq, drop_any 0 hn, goL_no hs]
set_option maxRecDepth 100000 in
set_option maxHeartbeats 3200000 in
theorem sorted_any (l : List It) (A : Option Addr) (c : Nat) (wt : Int) (ts : List (List Int)) (P : Option Addr) (pc : Nat) (w : World) (h : IRow w A l) (hp : PP w P ts) (hm : ts.length ≤ maxLen) :
    Calls Tryz.prog 38 #[jv A l.length c wt, .slice P ts.length pc] w fun e w' => e = .returned (RB (sortE l wt ts)) ∧ Below w.heap.size w w' := by
  have H := Lib.hid h
  have HP := Lib.hid hp
  have hts : ts.length ≤ 9223372036854775807 := hm
  obtain ⟨L, hL⟩ : ∃ n, n = l.length := ⟨_, rfl⟩
  have HL := Lib.hid hL
  obtain ⟨T, hT⟩ : ∃ n, n = ts.length := ⟨_, rfl⟩
  have HT := Lib.hid hT
  have HVL := Lib.hid (fun (W : World) (k : IRow W A l) => valid_any l A c wt W k)
  rw [← hL] at HVL ⊢
  rw [← hT] at hts ⊢
  have B0 := Lib.hid ((Below.refl w.heap.size w).alloc (Nat.le_refl _) (.cells #[.slice A L c, .int .i64 wt] 37))
  have J0 := Lib.hid (JBox.new (w := w) (A := A) (n := L) (c := c) (wt := wt) w.heap.size rfl)
  obtain ⟨b, hb⟩ : ∃ b, b = w.heap.size := ⟨_, rfl⟩
  clear h hL hp hm hT
  go_enter Tryz.func38, Tryz.ntmps38
  go_upto_region 1 with fail
  rw [← hb] at J0 ⊢
  generalize w.alloc (.cells #[.slice A L c, .int .i64 wt] 37) = w1 at *
  obtain ⟨j0, j1, jl⟩ := J0.out
  clear hb
  go_wp2_with fail
  refine (HVL.out w1 (H.out.below B0.out)).mono ?_
  rintro e w2 ⟨rfl, hB2⟩
  have J2 := Lib.hid (J0.out.below hB2 jl)
  have B2 := Lib.hid (B0.out.trans (hB2.mono B0.out.size))
  clear j0 j1 jl J0 B0 hB2 HVL
  obtain ⟨j0, j1, jl⟩ := J2.out
  by_cases he : validR l wt = 0
  · obtain ⟨p1, p2, p3⟩ := valid_ok he
    have HE := Lib.hid (show sortE l wt ts = (sortedB l ts, 0) from if_pos he)
    rw [he]
    rw [← HL.out] at p1
    clear he p2 p3
    have hmk := make_bools w2 L (by omega)
    have S0 := Lib.hid (BSet.new w2 (List.replicate L false) w2.heap.size rfl)
    have B3 := Lib.hid ((Below.refl w2.heap.size w2).alloc (Nat.le_refl _) (.cells ((List.replicate L false).map Value.bool).toArray 4))
    have Z0 := Lib.hid (show (List.replicate L false).length = l.length ∧ goT l 0 (List.replicate l.length false) ts = goT l 0 (List.replicate L false) ts from ⟨by rw [HL.out]; simp, by rw [HL.out]⟩)
    obtain ⟨g, hg⟩ : ∃ g, g = w2.heap.size := ⟨_, rfl⟩
    have HG := Lib.hid hg
    rw [← hg] at S0 hmk B3
    generalize w2.alloc (.cells ((List.replicate L false).map Value.bool).toArray 4) = w3 at *
    generalize List.replicate L false = s0 at *
    clear hg
    go_wp2_with fail
    go_loopw [23] (fun iv wr => ∃ (k : Nat) (s : List Bool), k ≤ T ∧ iv = .int .i64 (k : Int) ∧ Hid (BSet wr g s) ∧ Hid (s.length = l.length ∧ goT l 0 (List.replicate l.length false) ts = goT l (k : Int) s (ts.drop k)) ∧ Hid (Below g w2 wr)) (fun iv _ => T - (intOf iv).toNat)
    case atStart => exact ⟨0, s0, by omega, rfl, S0, Z0, B3⟩
    case round =>
      clear S0 Z0 B3 hmk j0 j1 jl
      obtain ⟨k, s, hk, rfl, S, Z, B⟩ := hrel
      have BW := Lib.hid (B2.out.trans ((show Below w2.heap.size w2 wr by rw [← HG.out]; exact B.out).mono B2.out.size))
      by_cases hlt : k < T
      · have hkt : k < ts.length := by rw [← HT.out]; exact hlt
        obtain ⟨pad, rfl, pbl, pa, qc, pcw, pr, pm⟩ := HP.out k _ (getD_ex [] hkt)
        have pcl := (BW.out.cell (p := pad.add k) (by rw [add_block]; exact pbl)).trans pcw
        clear pcw
        have Zd := Z.out.2
        rw [drop_any [] hkt] at Zd
        obtain ⟨p, hpp⟩ : ∃ p, p = ts.getD k [] := ⟨_, rfl⟩
        have HPP := Lib.hid hpp
        rw [← hpp] at pcl pr pm Zd
        have pm' : p.length ≤ 9223372036854775807 := pm
        have ZD := Lib.hid Zd
        have PRW := Lib.hid (show Row .i64 w w.heap.size pa p from pr)
        obtain ⟨N, hN⟩ : ∃ n, n = p.length := ⟨_, rfl⟩
        have HN := Lib.hid hN
        rw [← hN] at pcl pm'
        have I0 := Lib.hid (show Inn l (k : Int) s s p 0 from ⟨rfl, Z.out.1, fun y hy => by cases hy⟩)
        have HZL := Lib.hid Z.out.1
        clear hpp Zd pr pm hN Z hkt BW
        go_wp2_with fail
        clear pcl
        go_loopw [30] (fun iv wi => ∃ (n : Nat) (si : List Bool), n ≤ N ∧ iv = .int .i64 (n : Int) ∧ Hid (BSet wi g si) ∧ Hid (Inn l (k : Int) s si p n) ∧ Hid (Below g w2 wi)) (fun iv _ => N - (intOf iv).toNat)
        case atStart => exact ⟨0, s, by omega, rfl, S, I0, B⟩
        case round =>
          clear S B I0
          obtain ⟨n, si, hn, rfl, Si, I, Bi⟩ := hrel
          have BW := Lib.hid (B2.out.trans ((show Below w2.heap.size w2 wr by rw [← HG.out]; exact Bi.out).mono B2.out.size))
          by_cases hln : n < N
          · have hnp : n < p.length := by rw [← HN.out]; exact hln
            obtain ⟨pad2, rfl, _, cx⟩ := (PRW.out.below BW.out) n hnp
            obtain ⟨x, hx⟩ : ∃ x, x = p.getD n 0 := ⟨_, rfl⟩
            have HX := Lib.hid hx
            rw [← hx] at cx
            have J3 := J2.out.below Bi.out (by rw [HG.out]; exact J2.out.lt)
            obtain ⟨j0, j1, jl⟩ := J3
            have HIX := Lib.hid (fun (x : Int) (W : World) => index_any A L c x (by unfold maxLen; omega) W)
            have NO := Lib.hid (fun (hs : stepOk l (k : Int) (prvS p n) si x = false) => show sortE l wt ts = (false, 0) from by
              rw [HE.out]
              rw [HX.out] at hs
              rw [sortedB_no (by rw [ZD.out, goT_no (I.out.no (by rw [← HN.out]; exact hln) hs)])])
            have hgw : g < wr.heap.size := Si.out.lt
            clear hx hnp
            cases hbx : btw x 0 ((L : Int) - 1)
            · have HR := Lib.hid (NO.out (step_index (by rw [← HL.out]; exact hbx)))
              go_wp2_with fail
              refine (HIX.out x _).mono ?_
              rintro e w4 ⟨rfl, hw4⟩
              rw [hw4, hbx]
              clear hw4
              go_wp2_with fail
              go_ret2
              exact ⟨ret_rb HR.out, BW.out⟩
            · obtain ⟨x1, x2⟩ := btw_iff.1 hbx
              obtain ⟨X, rfl⟩ := Int.eq_ofNat_of_zero_le x1
              have hXL : X < L := by omega
              have csn := Si.out.cell X (by rw [I.out.len, ← HL.out]; exact hXL)
              cases hsn : si.getD X false
              · rw [hsn] at csn
                obtain ⟨ad, rfl, c0, c1, _, _⟩ := (H.out.below BW.out).two (x := X) (y := X) (by rw [← HL.out]; exact hXL) (by rw [← HL.out]; exact hXL)
                have hXL' : (X : Int) < (L : Int) := by omega
                have HBX := Lib.hid (show btw (X : Int) 0 ((l.length : Int) - 1) = true by rw [← HL.out]; exact hbx)
                have HSN := Lib.hid hsn
                by_cases ht : trn l X = (k : Int)
                · have htn : (trn l X != (k : Int)) = false := by simpa using ht
                  have fz := Si.out.frozen X
                  have S2 := Lib.hid (Si.out.set X true)
                  have B4 := Lib.hid (Bi.out.setCell (p := ⟨g, X, none⟩) (Nat.le_refl g) (.bool true))
                  have OK := Lib.hid (fun (hs : stepOk l (k : Int) (prvS p n) si (X : Int) = true) => show Inn l (k : Int) s (si.set X true) p (n + 1) from by
                    have := I.out.ok (by rw [← HN.out]; exact hln) (by rw [← HX.out]; exact HBX.out) (by rw [← HX.out]; exact hs)
                    rwa [← HX.out] at this)
                  have HTK := Lib.hid ht
                  clear hsn ht
                  cases n with
                  | zero =>
                    have e0 : pad2.add 0 = pad2 := by unfold Addr.add; rw [if_pos rfl]
                    rw [e0] at cx
                    have I2 := Lib.hid (OK.out (step_first HBX.out HSN.out HTK.out))
                    clear e0
                    go_wp2_with fail
                    refine (HIX.out X _).mono ?_
                    rintro e w4 ⟨rfl, hw4⟩
                    rw [hw4, hbx]
                    clear hw4
                    go_wp2_with fail
                    go_quiet (fail)
                    go_wp2_with fail
                    go_roundw
                    case rel => exact ⟨0 + 1, si.set X true, by omega, by go_num, Lib.hid (S2.out.drewN _), I2, Lib.hid (bdn B4.out)⟩
                    case measure => simp [intOf]; omega
                  | succ m =>
                    have hng : (0 : Int) < (m : Int) + 1 := by omega
                    rw [add_sc] at cx
                    obtain ⟨_, e', _, cy⟩ := (PRW.out.below BW.out) m (by rw [← HN.out]; omega)
                    obtain rfl : pad2 = _ := by injection e'
                    have hyb := I.out.prev _ (prvS_succ p m)
                    obtain ⟨y, hy⟩ : ∃ y, y = p.getD m 0 := ⟨_, rfl⟩
                    have HPV := Lib.hid (show prvS p (m + 1) = some y by rw [hy]; rfl)
                    rw [← hy] at cy hyb
                    rw [← HL.out] at hyb
                    obtain ⟨y1, y2⟩ := btw_iff.1 hyb
                    obtain ⟨Y, rfl⟩ := Int.eq_ofNat_of_zero_le y1
                    have hYL : Y < L := by omega
                    have hYL' : (Y : Int) < (L : Int) := by omega
                    obtain ⟨_, e2, d0, d1, _, _⟩ := (H.out.below BW.out).two (x := Y) (y := Y) (by rw [← HL.out]; exact hYL) (by rw [← HL.out]; exact hYL)
                    obtain rfl : ad = _ := by injection e2
                    have hm1 : (m : Int) < (N : Int) := by omega
                    have hm0 : (0 : Int) ≤ (m : Int) := by omega
                    have NX := Lib.hid (show stepOk l (k : Int) (prvS p (m + 1)) si (X : Int) = !decide (blk l X < blk l Y) by rw [HPV.out]; exact step_next HBX.out HSN.out HTK.out)
                    clear hy hyb y1 e' e2
                    generalize blk l X = bx at *
                    generalize blk l Y = bY at *
                    by_cases hlt2 : bx < bY
                    · have HR := Lib.hid (NO.out (by rw [NX.out, decide_eq_true hlt2]; rfl))
                      go_wp2_with fail
                      refine (HIX.out X _).mono ?_
                      rintro e w4 ⟨rfl, hw4⟩
                      rw [hw4, hbx]
                      clear hw4
                      go_wp2_with fail
                      go_quiet (fail)
                      go_wp2_with fail
                      go_ret2
                      exact ⟨ret_rb HR.out, bdn BW.out⟩
                    · have I2 := Lib.hid (OK.out (by rw [NX.out, decide_eq_false hlt2]; rfl))
                      go_wp2_with fail
                      refine (HIX.out X _).mono ?_
                      rintro e w4 ⟨rfl, hw4⟩
                      rw [hw4, hbx]
                      clear hw4
                      go_wp2_with fail
                      go_quiet (fail)
                      go_wp2_with fail
                      go_roundw
                      case rel => exact ⟨m + 1 + 1, si.set X true, by omega, by go_num, Lib.hid (S2.out.drewN _), I2, Lib.hid (bdn B4.out)⟩
                      case measure => simp [intOf]; omega
                · have htn : (trn l X != (k : Int)) = true := by simpa using ht
                  have HR := Lib.hid (NO.out (step_train ht))
                  go_wp2_with fail
                  refine (HIX.out X _).mono ?_
                  rintro e w4 ⟨rfl, hw4⟩
                  rw [hw4, hbx]
                  clear hw4
                  go_wp2_with fail
                  go_ret2
                  exact ⟨ret_rb HR.out, BW.out⟩
              · have HR := Lib.hid (NO.out (step_seen hsn))
                rw [hsn] at csn
                have hXL' : (X : Int) < (L : Int) := by omega
                go_wp2_with fail
                refine (HIX.out X _).mono ?_
                rintro e w4 ⟨rfl, hw4⟩
                rw [hw4, hbx]
                clear hw4
                go_wp2_with fail
                go_ret2
                exact ⟨ret_rb HR.out, BW.out⟩
          · obtain rfl : n = N := by omega
            have Z2 := Lib.hid (show si.length = l.length ∧ goT l 0 (List.replicate l.length false) ts = goT l ((k : Int) + 1) si (ts.drop (k + 1)) from ⟨I.out.len, by
              rw [ZD.out]
              refine goT_ok ?_
              rw [I.out.eq, HN.out, List.drop_length]; rfl⟩)
            clear I hln
            go_wp2_with fail
            go_roundw
            case rel => exact ⟨k + 1, si, by omega, by go_num, Si, Z2, Bi⟩
            case measure => simp [intOf]; omega
      · obtain rfl : k = T := by omega
        have HR := Lib.hid (show sortE l wt ts = (!hasF s, 0) from by
          rw [HE.out, sortedB_some (by rw [Z.out.2, HT.out, List.drop_length]; rfl)])
        have HF := hasFalse_any s g L wr S.out (by rw [Z.out.1, ← HL.out]; unfold maxLen; omega)
        rw [Z.out.1, ← HL.out] at HF
        have HF := Lib.hid HF
        clear Z hlt
        go_wp2_with fail
        refine HF.out.mono ?_
        rintro e w4 ⟨rfl, hw4⟩
        rw [hw4]
        clear hw4
        go_wp2_with fail
        go_ret2
        exact ⟨ret_rb HR.out, BW.out⟩
  · have HE := Lib.hid (show sortE l wt ts = (false, validR l wt) from if_neg he)
    have hne : (validR l wt != 0) = true := bne_iff_ne.2 he
    clear he
    go_wp2_with fail
    go_ret2
    exact ⟨ret_rb HE.out, B2.out⟩
end Go.Proofs.YtimkmieohkefiaaGreat

namespace Go.Proofs.YtimkmieohkefiaaGreat
open Go.RowKit Go.Lib

/-- What is seen behind a list. -/
def mark (s : List Bool) : List Nat → List Bool
  | [] => s
  | x :: p => mark (s.set x true) p
theorem mark_len (s : List Bool) (p : List Nat) : (mark s p).length = s.length := by
  induction p generalizing s with
  | nil => rfl
  | cons x p ih => show (mark (s.set x true) p).length = _; rw [ih, List.length_set]
theorem set_get (s : List Bool) (x j : Nat) (hx : x < s.length) : (s.set x true).getD j false = (s.getD j false || decide (j = x)) := by
  rw [List.getD_eq_getElem?_getD, List.getElem?_set]
  by_cases e : x = j
  · subst e; simp [hx]
  · rw [if_neg e, ← List.getD_eq_getElem?_getD]; simp [Ne.symm e]
theorem mark_get {s : List Bool} {p : List Nat} (hp : ∀ x ∈ p, x < s.length) (j : Nat) : (mark s p).getD j false = (s.getD j false || decide (j ∈ p)) := by
  induction p generalizing s with
  | nil => simp [mark]
  | cons x p ih =>
    show (mark (s.set x true) p).getD j false = _
    rw [ih (fun y hy => by rw [List.length_set]; exact hp y (List.mem_cons_of_mem _ hy)), set_get s x j (hp x (List.mem_cons_self ..))]
    by_cases h1 : j = x <;> by_cases h2 : j ∈ p <;> simp [h1, h2]
/-- A good list of train t. -/
structure GoodT (l : List It) (t : Int) (p : List Nat) : Prop where
  mem : ∀ x ∈ p, x < l.length ∧ trn l x = t
  asc : p.Pairwise fun x y => blk l x ≤ blk l y
  nod : p.Nodup
theorem goL_good {l : List It} {t : Int} {p : List Nat} (h : GoodT l t p) {prev : Option Int} {s : List Bool} (hs : s.length = l.length) (hf : ∀ x ∈ p, s.getD x false = false)
    (hp : ∀ y, prev = some y → ∀ x ∈ p, blk l y.toNat ≤ blk l x) : goL l t prev s (toZ p) = some (mark s p) := by
  induction p generalizing prev s with
  | nil => rfl
  | cons x p ih =>
    obtain ⟨hx, ht⟩ := h.mem x (List.mem_cons_self ..)
    have hnx := (List.nodup_cons.1 h.nod)
    have hax := (List.pairwise_cons.1 h.asc)
    have ok : stepOk l t prev s (x : Int) = true := by
      have h1 : btw (x : Int) 0 ((l.length : Int) - 1) = true := btw_iff.2 (by omega)
      have h2 : s.getD (x : Int).toNat false = false := hf x (List.mem_cons_self ..)
      have h3 : trn l (x : Int).toNat = t := ht
      cases prev with
      | none => exact step_first h1 h2 h3
      | some y =>
        rw [step_next h1 h2 h3]
        have h4 : blk l y.toNat ≤ blk l (x : Int).toNat := hp y rfl x (List.mem_cons_self ..)
        rw [decide_eq_false (by omega)]; rfl
    show goL l t prev s ((x : Int) :: toZ p) = _
    rw [goL_ok ok]
    show goL l t (some (x : Int)) (s.set x true) (toZ p) = some (mark (s.set x true) p)
    refine ih ⟨fun y hy => h.mem y (List.mem_cons_of_mem _ hy), hax.2, hnx.2⟩ (by rw [List.length_set]; exact hs) (fun y hy => ?_) (fun y hy z hz => ?_)
    · rw [set_get s x y (by rw [hs]; exact hx), hf y (List.mem_cons_of_mem _ hy)]
      have : y ≠ x := fun e => hnx.1 (e ▸ hy)
      simp [this]
    · injection hy with hy
      subst hy
      exact hax.1 z hz
/-- Two neighbours that fall. -/
theorem goL_fall {l : List It} {t : Int} {a b : Nat} {pre post : List Nat} (h : blk l a < blk l b) {prev : Option Int} {s : List Bool} : goL l t prev s (toZ (pre ++ b :: a :: post)) = none := by
  induction pre generalizing prev s with
  | nil =>
    show goL l t prev s ((b : Int) :: (a : Int) :: toZ post) = none
    cases h1 : stepOk l t prev s (b : Int) with
    | false => exact goL_no h1
    | true =>
      rw [goL_ok h1]
      refine goL_no ?_
      unfold stepOk
      have : decide (blk l (a : Int).toNat < blk l (b : Int).toNat) = true := decide_eq_true h
      show (_ && (!decide (blk l (a : Int).toNat < blk l (b : Int).toNat))) = false
      rw [this]; simp
  | cons x pre ih =>
    show goL l t prev s ((x : Int) :: toZ (pre ++ b :: a :: post)) = none
    cases h1 : stepOk l t prev s (x : Int) with
    | false => exact goL_no h1
    | true => rw [goL_ok h1]; exact ih
/-- What is seen behind the lists. -/
def markT (s : List Bool) : List (List Nat) → List Bool
  | [] => s
  | p :: r => markT (mark s p) r
theorem goT_good {l : List It} {ts : List (List Nat)} : ∀ (t : Int) (s : List Bool), (∀ (k : Nat) p, ts[k]? = some p → GoodT l (t + k) p ∧ ∀ x ∈ p, s.getD x false = false) → s.length = l.length → goT l t s (ts.map toZ) = some (markT s ts) := by
  induction ts with
  | nil => intro t s _ _; rfl
  | cons p r ih =>
    intro t s h hs
    obtain ⟨g, hf⟩ := h 0 p rfl
    have g' : GoodT l t p := by have := g; rwa [show t + ((0 : Nat) : Int) = t by omega] at this
    have e := goL_good g' hs hf (prev := none) (fun y hy => by cases hy)
    show goT l t s (toZ p :: r.map toZ) = some (markT (mark s p) r)
    rw [goT_ok e]
    refine ih (t + 1) (mark s p) (fun k q hq => ?_) (by rw [mark_len]; exact hs)
    obtain ⟨g2, hf2⟩ := h (k + 1) q hq
    have e2 : t + ((k + 1 : Nat) : Int) = t + 1 + (k : Int) := by omega
    rw [e2] at g2
    refine ⟨g2, fun x hx => ?_⟩
    rw [mark_get (fun y hy => by rw [hs]; exact (g'.mem y hy).1), hf2 x hx]
    have : x ∉ p := fun hxp => by
      have h1 := (g'.mem x hxp).2
      have h2 := (g2.mem x hx).2
      omega
    simp [this]
theorem goT_fall {l : List It} {ts : List (List Int)} {k : Nat} {q : List Int} (hq : ts[k]? = some q) (hn : ∀ t s, goL l t none s q = none) : ∀ (t : Int) (s : List Bool), goT l t s ts = none := by
  induction ts generalizing k with
  | nil => simp at hq
  | cons p r ih =>
    intro t s
    cases k with
    | zero =>
      injection hq with hq
      subst hq
      exact goT_no (hn t s)
    | succ k =>
      cases h1 : goL l t none s p with
      | none => exact goT_no h1
      | some s' => rw [goT_ok h1]; exact ih hq (t + 1) s'
theorem markT_get {ts : List (List Nat)} : ∀ (s : List Bool), (∀ p ∈ ts, ∀ x ∈ p, x < s.length) → ∀ j, (markT s ts).getD j false = (s.getD j false || decide (∃ p ∈ ts, j ∈ p)) := by
  induction ts with
  | nil => intro s _ j; simp [markT]
  | cons p r ih =>
    intro s h j
    show (markT (mark s p) r).getD j false = _
    rw [ih (mark s p) (fun q hq x hx => by rw [mark_len]; exact h q (List.mem_cons_of_mem _ hq) x hx) j, mark_get (h p (List.mem_cons_self ..))]
    rw [Bool.eq_iff_iff]
    simp only [Bool.or_eq_true, decide_eq_true_eq, List.mem_cons, exists_eq_or_imp]
    exact or_assoc
theorem markT_len (s : List Bool) (ts : List (List Nat)) : (markT s ts).length = s.length := by
  induction ts generalizing s with
  | nil => rfl
  | cons p r ih => show (markT (mark s p) r).length = _; rw [ih, mark_len]
/-- GoodT lists that hold each item are sorted. -/
theorem sorted_good {l : List It} {ts : List (List Nat)} (h : ∀ (k : Nat) p, ts[k]? = some p → GoodT l (k : Int) p) (hall : ∀ x, x < l.length → ∃ p ∈ ts, x ∈ p) : sortedB l (ts.map toZ) = true := by
  have hr : ∀ j, (List.replicate l.length false).getD j false = false := fun j => by
    rw [List.getD_eq_getElem?_getD, List.getElem?_replicate]; split <;> rfl
  have e := goT_good (l := l) (ts := ts) 0 (List.replicate l.length false) (fun k p hp => ⟨by rw [Int.zero_add]; exact h k p hp, fun x _ => hr x⟩) (by simp)
  rw [sortedB_some e]
  have hf : hasF (markT (List.replicate l.length false) ts) = false := by
    unfold hasF
    rw [Bool.eq_false_iff]
    intro hc
    rw [List.contains_iff_mem] at hc
    obtain ⟨i, hi⟩ := List.mem_iff_getElem?.1 hc
    have hil := (List.getElem?_eq_some_iff.1 hi).1
    rw [markT_len, List.length_replicate] at hil
    have h1 := markT_get (ts := ts) (List.replicate l.length false) (fun p hp x hx => by
      obtain ⟨k, hk⟩ := List.mem_iff_getElem?.1 hp
      rw [List.length_replicate]
      exact ((h k p hk).mem x hx).1) i
    rw [List.getD_eq_getElem?_getD, hi, hr, decide_eq_true (hall i hil)] at h1
    cases h1
  rw [hf]; rfl
theorem sorted_fall {l : List It} {ts : List (List Int)} {k : Nat} {pre post : List Nat} {a b : Nat} (hq : ts[k]? = some (toZ (pre ++ b :: a :: post))) (h : blk l a < blk l b) : sortedB l ts = false :=
  sortedB_no (goT_fall hq (fun t s => goL_fall h) _ _)
/-- The relation of x and y holds of the codes; those of x to the first k; those of the first k. -/
def okR (l : List It) (v : List Int) (x y : Nat) : Bool := rel l x y == 0 || decide (v.getD x 0 + str1 l x y ≤ v.getD y 0)
def rowR (l : List It) (v : List Int) (x k : Nat) : Bool := (List.range k).all fun y => okR l v x y
def allR (l : List It) (v : List Int) (k : Nat) : Bool := (List.range k).all fun x => rowR l v x l.length
theorem desc (l : List It) : ∀ p : List Nat, p.Pairwise (fun x y => blk l x ≤ blk l y) ∨ ∃ pre b a post, p = pre ++ b :: a :: post ∧ blk l a < blk l b := by
  intro p
  induction p with
  | nil => exact Or.inl List.Pairwise.nil
  | cons b p ih =>
    rcases ih with h | ⟨pre, b', a, post, rfl, h⟩
    · cases p with
      | nil => exact Or.inl (List.pairwise_singleton _ _)
      | cons a post =>
        by_cases g : blk l a < blk l b
        · exact Or.inr ⟨[], b, a, post, rfl, g⟩
        · refine Or.inl (List.pairwise_cons.2 ⟨fun y hy => ?_, h⟩)
          rcases List.mem_cons.1 hy with rfl | hy
          · omega
          · have := (List.pairwise_cons.1 h).1 y hy
            omega
    · exact Or.inr ⟨b :: pre, b', a, post, rfl, h⟩
theorem getD_memL {ts : List (List Nat)} {b : Nat} (h : b < ts.length) : ts[b]? = some (ts.getD b []) ∧ ts.getD b [] ∈ ts := by
  have e : ts[b]? = some (ts.getD b []) := by rw [List.getD_eq_getElem?_getD, List.getElem?_eq_getElem h]; rfl
  exact ⟨e, List.mem_of_getElem? e⟩
theorem sor_plain {l : List It} {wt : Int} {S : Nat} {v : List Int} (h : Pl l wt S v) :
    sortedB l ((mT S l.length (tnT l) (cdN v) (rdN l) (tnN l) (S + 1)).map toZ) = allR l v l.length := by
  have hf := h.fitN
  have hlen : (mT S l.length (tnT l) (cdN v) (rdN l) (tnN l) (S + 1)).length = tnT l := mT_len _
  have hon := fun b (hb : b < tnT l) => onT_end hf hb
  obtain ⟨ts, hts⟩ : ∃ ts, ts = mT S l.length (tnT l) (cdN v) (rdN l) (tnN l) (S + 1) := ⟨_, rfl⟩
  rw [← hts] at hlen hon ⊢
  cases hall : allR l v l.length with
  | true =>
    have hok : ∀ x y, x < l.length → y < l.length → okR l v x y = true := fun x y hx hy => by
      have h1 := List.all_eq_true.1 hall x (List.mem_range.2 hx)
      exact List.all_eq_true.1 h1 y (List.mem_range.2 hy)
    refine sorted_good (fun k p hp => ?_) (fun x hx => ?_)
    · have hk : k < ts.length := (List.getElem?_eq_some_iff.1 hp).1
      obtain ⟨h1, h2⟩ := hon k (by omega)
      have hpe : ts.getD k [] = p := by rw [List.getD_eq_getElem?_getD, hp]; rfl
      rw [hpe] at h1 h2
      refine ⟨fun x hx => ?_, h2.imp_of_mem fun {x y} hx hy hxy => ?_, h2.imp fun {x y} hxy e => ?_⟩
      · obtain ⟨a1, a2⟩ := (h1 x).1 hx
        exact ⟨a1, by rw [(h.tn a1).1, a2]⟩
      · obtain ⟨a1, a2⟩ := (h1 x).1 hx
        obtain ⟨b1, b2⟩ := (h1 y).1 hy
        rcases Int.lt_or_le (blk l y) (blk l x) with g | g
        · exfalso
          have hr : rel l y x = if x < y then 2 else 1 := by
            unfold rel
            rw [if_neg (by rw [(h.tn a1).1, (h.tn b1).1, a2, b2]; omega)]
          have ho := hok y x b1 a1
          unfold okR str1 at ho
          rw [(h.cd a1).1, (h.cd b1).1, hr] at ho
          by_cases hxy2 : x < y
          · rw [if_pos hxy2] at ho
            simp at ho
            omega
          · rw [if_neg hxy2] at ho
            simp at ho
            omega
        · exact g
      · subst e; omega
    · have ht := (h.tn hx).2
      obtain ⟨h1, h2⟩ := hon (tnN l x) ht
      exact ⟨_, (getD_memL (by omega)).2, (h1 x).2 ⟨hx, rfl⟩⟩
  | false =>
    obtain ⟨x, hx, hx2⟩ : ∃ x, x < l.length ∧ rowR l v x l.length = false := by
      rw [← Bool.not_eq_true, allR, List.all_eq_true] at hall
      simp only [List.mem_range] at hall
      exact Classical.byContradiction fun e => hall fun x hx => by
        cases g : rowR l v x l.length with
        | true => rfl
        | false => exact absurd ⟨x, hx, g⟩ e
    obtain ⟨y, hy, hy2⟩ : ∃ y, y < l.length ∧ okR l v x y = false := by
      rw [← Bool.not_eq_true, rowR, List.all_eq_true] at hx2
      simp only [List.mem_range] at hx2
      exact Classical.byContradiction fun e => hx2 fun y hy => by
        cases g : okR l v x y with
        | true => rfl
        | false => exact absurd ⟨y, hy, g⟩ e
    unfold okR at hy2
    rw [Bool.or_eq_false_iff, beq_eq_false_iff_ne, decide_eq_false_iff_not] at hy2
    obtain ⟨r1, r2⟩ := hy2
    obtain ⟨t1, t2⟩ := rel_pos r1
    have htn : tnN l x = tnN l y := by
      have e1 := (h.tn hx).1
      have e2 := (h.tn hy).1
      omega
    have ht := (h.tn hx).2
    obtain ⟨h1, h2⟩ := hon (tnN l x) ht
    have hxp := (h1 x).2 ⟨hx, rfl⟩
    have hyp := (h1 y).2 ⟨hy, htn.symm⟩
    obtain ⟨hg, _⟩ := getD_memL (ts := ts) (b := tnN l x) (by omega)
    obtain ⟨p, hp⟩ : ∃ p, p = ts.getD (tnN l x) [] := ⟨_, rfl⟩
    rw [← hp] at h2 hxp hyp hg
    rw [(h.cd hx).1, (h.cd hy).1] at r2
    rcases desc l p with hd | ⟨pre, b, a, post, e, hb⟩
    · exfalso
      obtain ⟨i, hi, rfl⟩ := List.mem_iff_getElem.1 hxp
      obtain ⟨j, hj, rfl⟩ := List.mem_iff_getElem.1 hyp
      rcases Nat.lt_trichotomy i j with g | g | g
      · have q := List.pairwise_iff_getElem.1 h2 i j hi hj g
        have hs : str1 l p[i] p[j] = if p[j] < p[i] then 1 else 0 := by
          have hrl : rel l p[i] p[j] = if p[j] < p[i] then 2 else 1 := by
            unfold rel
            rw [if_neg (by rintro (e | e) <;> omega)]
          unfold str1
          rw [hrl]
          by_cases c : p[j] < p[i]
          · rw [if_pos c, if_pos c]; rfl
          · rw [if_neg c, if_neg c]; rfl
        rw [hs] at r2
        split at r2 <;> omega
      · subst g; omega
      · have q := List.pairwise_iff_getElem.1 hd j i hj hi g
        omega
    · refine sorted_fall (k := tnN l x) (pre := pre) (post := post) (a := a) (b := b) ?_ hb
      rw [List.getElem?_map, hg, e]; rfl
end Go.Proofs.YtimkmieohkefiaaGreat

namespace Go.Proofs.YtimkmieohkefiaaGreat
open Go.RowKit Go.Lib

theorem Pl.set {l : List It} {wt : Int} {S : Nat} {v : List Int} (h : Pl l wt S v) {i z : Nat} (hi : i < l.length) (hz : isC (rdN l i) wt.toNat z = true) (hl : z < 2 ^ S) : Pl l wt S (v.set i (z : Int)) := by
  have hf := formOk_of h.val
  refine ⟨h.val, fitB_iff.2 ⟨by have := h.s12; omega, by rw [List.length_set]; exact h.len, fun x hx => ?_⟩⟩
  by_cases e : i = x
  · subst e
    unfold okC
    have hat : (v.set i (z : Int)).getD i 0 = z := by
      rw [List.getD_eq_getElem?_getD, List.getElem?_set, if_pos rfl, if_pos (by rw [h.len]; exact hi)]; rfl
    have e2 : (2 : Int) ^ ((S : Int)).toNat = ((2 ^ S : Nat) : Int) := by simp
    obtain ⟨V, hV⟩ := Int.eq_ofNat_of_zero_le hf.wb.1
    rw [hat, (h.rd hi).1, e2, decide_eq_true (show (z : Int) < ((2 ^ S : Nat) : Int) by omega)]
    rw [hV] at hz ⊢
    rw [isZ_nat (h.rd hi).2 (by have := hf.wb.2; omega)]
    exact hz
  · have := (fitB_iff.1 h.fit).2.2 x hx
    unfold okC at this ⊢
    rw [List.getD_eq_getElem?_getD, List.getElem?_set, if_neg e, ← List.getD_eq_getElem?_getD]
    exact this
/-- A plan in the block g whose list may be any other of the call's own. -/
structure PQ (wr : World) (m g : Nat) (st : Int) (A : Option Addr) (n c : Nat) (v : List Int) : Prop where
  box : PBox wr g st A n c
  own : Own .i64 3 wr (m + 1) (.slice A n c) v
  ne : ∀ q, (Value.slice A n c).ownBlock = some q → q ≠ g
  len : n = v.length
  lt : m < g
section
variable {w w' : World} {m g n c : Nat} {st : Int} {A : Option Addr} {v : List Int}
theorem PQ.of (h : PSt w m g st A n c v) : PQ w m g st A n c v := ⟨h.box, h.own, fun q hq => by have := h.lo q hq; omega, h.len, h.lt⟩
theorem PQ.below (h : PQ w m g st A n c v) (k : Below w.heap.size w w') : PQ w' m g st A n c v := ⟨h.box.below k h.box.lt, h.own.below k, h.ne, h.len, h.lt⟩
theorem PQ.step (h : PQ w m g st A n c v) (k : Moves m w w') : PQ w' m g st A n c v := ⟨h.box.moves k (by have := h.lt; omega), h.own.moves k (Nat.lt_succ_self _), h.ne, h.len, h.lt⟩
theorem PQ.row (h : PQ w m g st A n c v) : Row .i64 w w.heap.size A v ∧ v.length ≤ maxLen := by
  obtain ⟨A', c', ev, LR, -, hm, -⟩ := h.own.slice
  have e1 : A = A' := by injection ev
  subst e1
  exact ⟨LR, hm⟩
theorem PBox.setN {b : Nat} (h : PBox w b st A n c) {p : Addr} (hp : p.block ≠ b) (u : Value) : PBox (w.setCell p u) b st A n c := by
  have nb : ∀ j, p ≠ ⟨b, j, none⟩ := fun j e => hp (congrArg Addr.block e)
  exact ⟨(World.cell?_setCell_other _ _ _ _ (nb 0)).trans h.c0, (World.cell?_setCell_other _ _ _ _ (nb 1)).trans h.c1, fun j => by rw [World.frozen?_setCell]; exact h.f j, by rw [World.size_setCell]; exact h.lt⟩
/-- The box g1 takes the plan of the box g. -/
theorem PQ.put {g1 n1 c1 : Nat} {st1 : Int} {A1 : Option Addr} (h : PQ w m g st A n c v) (p : PBox w g1 st1 A1 n1 c1) (hm : m < g1) (hne : g1 ≠ g) (ho : ∀ q, (Value.slice A n c).ownBlock = some q → q ≠ g1) :
    PQ ((w.setCell ⟨g1, 0, none⟩ (.int .i64 st)).setCell ⟨g1, 1, none⟩ (.slice A n c)) m g1 st A n c v ∧ PQ ((w.setCell ⟨g1, 0, none⟩ (.int .i64 st)).setCell ⟨g1, 1, none⟩ (.slice A n c)) m g st A n c v :=
  have O := (h.own.setN (p := ⟨g1, 0, none⟩) ho (.int .i64 st)).setN (p := ⟨g1, 1, none⟩) ho (.slice A n c)
  ⟨⟨p.put, O, ho, h.len, hm⟩, ⟨(h.box.setN (p := ⟨g1, 0, none⟩) hne _).setN (p := ⟨g1, 1, none⟩) hne _, O, h.ne, h.len, h.lt⟩⟩
/-- A code is stored. -/
theorem PQ.code {gq : Nat} (h : PQ w m g st (some ⟨gq, 0, none⟩) n c v) (j : Nat) (x : Int) : PQ (w.setCell ⟨gq, j, none⟩ (.int .i64 x)) m g st (some ⟨gq, 0, none⟩) n c (v.set j x) :=
  ⟨h.box.setN (p := ⟨gq, j, none⟩) (h.ne gq rfl) _, h.own.store h.len j x, h.ne, by rw [List.length_set]; exact h.len, h.lt⟩
theorem JM.setC {w0 wr : World} {b cj N : Nat} {jA : Option Addr} {l : List It} {wt : Int} (h : JM w0 wr b jA cj l wt N) {p : Addr} (hp : b < p.block) (u : Value) : JM w0 (wr.setCell p u) b jA cj l wt N :=
  h.under (B := b + 1) ((Below.refl (b + 1) wr).setCell (p := p) hp u) (Nat.lt_succ_self b)
end
end Go.Proofs.YtimkmieohkefiaaGreat

namespace Go.Proofs.YtimkmieohkefiaaGreat
open Go.RowKit Go.Lib

end Go.Proofs.YtimkmieohkefiaaGreat

namespace Go.Proofs.YtimkmieohkefiaaGreat
open Go.RowKit Go.Lib

end Go.Proofs.YtimkmieohkefiaaGreat

namespace Go.Proofs.YtimkmieohkefiaaGreat
open Go.RowKit Go.Lib

theorem trk_ok {b : List Int} (hl : b.length ≤ 32) (hb : ∀ z ∈ b, 1 ≤ z ∧ z ≤ 38400) : trkE b = 0 := by
  unfold trkE
  rw [if_neg (by omega), if_pos (okF_of hb)]
theorem trkL_bd {z : Int} (h : z ∈ trkL) : 300 ≤ z ∧ z ≤ 4000 := by
  have : ∀ z ∈ trkL, 300 ≤ z ∧ z ≤ 4000 := by decide
  exact this z h
theorem solE_cases {l : List It} (hv : validR l 0 = 0) : solE l = 0 ∨ solE l = 15 := by
  unfold solE
  rw [if_neg (fun g => g hv)]
  split
  · exact Or.inr rfl
  · exact Or.inl rfl
theorem srt_scr {l : List It} {q : List Sc} (h : Srt17 (scL l) q) {i : Nat} {s : Sc} (hi : q[i]? = some s) : ScR l s := (scL_mem.1 (h.perm.mem_iff.1 (List.mem_of_getElem? hi))).1
theorem plan_cases {l : List It} {b : List Int} {q : List Sc} {res : Option (Sc × List Int)} {rf : List Int} {er : Int} (hs : Srt17 (scL l) q) (hb : trkE b = 0) (h : PlanR l b q res rf er) :
    (∃ i s tk, q[i]? = some s ∧ NoRoom l b q i ∧ ScR l s ∧ res = some (s, tk) ∧ rf = [] ∧ er = 0 ∧ Asg (ldS l s) b tk ∧ fitR (ldS l s) b tk = true ∧ Hall (ldS l s) b) ∨
    (er = 14 ∧ res = none ∧ NoRoom l b q q.length ∧ ∃ s, q[0]? = some s ∧ ScR l s ∧ refR (ldS l s) b rf = true) := by
  rcases h with ⟨h0, _⟩ | ⟨_, i, s, tk, hi, hn, ⟨os, h1, h2⟩, rfl, rfl, rfl⟩ | ⟨_, hn, ⟨s, hs0, os, h1, h2⟩, rfl, rfl⟩
  · exact absurd hb h0
  · have hr := srt_scr hs hi
    have V := vd_of ((scr_loads hr b).2.trans hb)
    rcases mout_cases V h1 h2 with ⟨_, _, G, H⟩ | ⟨e, _⟩
    · exact Or.inl ⟨i, s, tk, hi, hn, hr, rfl, rfl, rfl, G, fit_asg V G, H⟩
    · cases e
  · have hr := srt_scr hs hs0
    have V := vd_of ((scr_loads hr b).2.trans hb)
    rcases mout_cases V h1 h2 with ⟨e, _⟩ | ⟨_, _, R, _⟩
    · cases e
    · exact Or.inr ⟨rfl, rfl, hn, s, hs0, hr, R⟩
/-- The lengths of tracks, some of them made longer. -/
def MoreR (b ds : List Int) (k : Nat) : Prop := ds.length = b.length ∧ ∀ j, j < b.length → ld b j ≤ ld ds j ∧ ld ds j ≤ ld b j + 1000 ∧ (k ≤ j → ld ds j = ld b j)
theorem MoreR.set {b ds : List Int} {k : Nat} (h : MoreR b ds k) (hk : k < b.length) {p : Int} (h0 : 0 ≤ p) (h1 : p ≤ 1000) : MoreR b (ds.set k (ld ds k + p)) (k + 1) := by
  refine ⟨by rw [List.length_set]; exact h.1, fun j hj => ?_⟩
  have e : ld (ds.set k (ld ds k + p)) j = if j = k then ld ds k + p else ld ds j := by
    unfold ld
    exact getD_set ds k j _ (by rw [h.1]; exact hk)
  rw [e]
  by_cases g : j = k
  · subst g
    have := h.2 j hk
    have := this.2.2 (Nat.le_refl _)
    rw [if_pos rfl]
    refine ⟨by omega, by omega, fun h => by omega⟩
  · rw [if_neg g]
    have := h.2 j hj
    exact ⟨this.1, this.2.1, fun g2 => this.2.2 (by omega)⟩
end Go.Proofs.YtimkmieohkefiaaGreat

namespace Go.Proofs.YtimkmieohkefiaaGreat
open Go.RowKit Go.Lib

end Go.Proofs.YtimkmieohkefiaaGreat

namespace Go.Proofs.YtimkmieohkefiaaGreat
open Go.RowKit Go.Lib

end Go.Proofs.YtimkmieohkefiaaGreat

namespace Go.Proofs.YtimkmieohkefiaaGreat
open Go.RowKit Go.Lib

end Go.Proofs.YtimkmieohkefiaaGreat

namespace Go.Proofs.YtimkmieohkefiaaGreat
open Go.RowKit Go.Lib

end Go.Proofs.YtimkmieohkefiaaGreat

namespace Go.Proofs.YtimkmieohkefiaaGreat
open Go.RowKit Go.Lib

end Go.Proofs.YtimkmieohkefiaaGreat
