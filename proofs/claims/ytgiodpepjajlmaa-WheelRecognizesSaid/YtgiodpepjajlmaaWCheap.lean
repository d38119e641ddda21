/-
  Stage 7: the law's cheapest: all divisions are tried.
-/
import Derived.Test.YtgiodpepjajlmaaWRec
set_option linter.unusedSimpArgs false
set_option linter.unusedVariables false
namespace Go.Proofs.Ytgiodpepjajlmaa
open Go.RowKit

def chV (x : Cel3) : Int := match x with | some z => z.1 | none => -1
def ChPost (v : Int) (w : World) (e : Ending) (w' : World) : Prop := e = .returned (.int .i64 v) ∧ ∃ n, w' = w.drewN n
theorem getD_dropI (zs : List Int) (n j : Nat) : (zs.drop n).getD j 0 = zs.getD (n + j) 0 := getD_drop zs n j 0
set_option maxRecDepth 100000 in
set_option maxHeartbeats 6400000 in
theorem cheap_any (d : List Int) (ps : List (List Int)) (tol : Int) (A A2 : Option Addr) (c c2 : Nat) (hD : Dvd d ps tol) (w0 : World) (h0 : Row .i64 w0 w0.heap.size A d) (hp0 : PP w0 A2 ps) (m : Nat) :
    ∀ (at_ : Nat) (w : World), d.length + 1 ≤ at_ + m → at_ ≤ d.length + 1 → (∃ n, w = w0.drewN n) →
    Calls Try.prog 28 #[.slice A d.length c, .slice A2 ps.length c2, .int .i64 tol, .int .i64 (at_ : Int)] w (ChPost (chV ((tb ps tol d).getD at_ none)) w) := by
  induction m with
  | zero =>
    intro at_ w h1 h2 hw
    obtain rfl : at_ = d.length + 1 := by omega
    have HT := Lib.hid (tb_end ps tol d)
    have dl := hD.dl
    generalize d.length = L at *
    rw [HT.out]
    clear h1 h2 hD h0 hp0 HT
    have ev : (((L + 1 : Nat) : Int) == (L : Int) + 1) = true := beq_iff_eq.2 rfl
    go_enter Try.func28, Try.ntmps28
    go_wp2_with fail
    go_ret
    exact ⟨rfl, 0, rfl⟩
  | succ m ih =>
    intro at_ w h1 h2 hw
    by_cases he : at_ = d.length + 1
    · subst he
      have HT := Lib.hid (tb_end ps tol d)
      have dl := hD.dl
      clear ih
      generalize d.length = L at *
      rw [HT.out]
      clear h1 h2 hD h0 hp0 HT
      have ev : (((L + 1 : Nat) : Int) == (L : Int) + 1) = true := beq_iff_eq.2 rfl
      go_enter Try.func28, Try.ntmps28
      go_wp2_with fail
      go_ret
      exact ⟨rfl, 0, rfl⟩
    · have IH := Lib.hid ih
      have H := Lib.hid h0
      have HP := Lib.hid hp0
      have HD := Lib.hid hD
      have HW := Lib.hid hw
      have HTB := Lib.hid (tb_at ps tol d at_ (by omega))
      have dl := hD.dl
      have pl := hD.pl
      have t0 := hD.t0
      have t1 := hD.t1
      obtain ⟨L, hL⟩ : ∃ n, n = d.length := ⟨_, rfl⟩
      have HL := Lib.hid hL
      obtain ⟨M, hM⟩ : ∃ n, n = ps.length := ⟨_, rfl⟩
      have HM := Lib.hid hM
      obtain ⟨T, hT⟩ : ∃ T, T = (tb ps tol d).drop (at_ + 1) := ⟨_, rfl⟩
      have HT := Lib.hid hT
      obtain ⟨dd, hdd⟩ : ∃ e, e = d.drop at_ := ⟨_, rfl⟩
      have HDD := Lib.hid hdd
      have HDV := Lib.hid (show Dvd dd ps tol by rw [hdd]; exact hD.drop at_)
      have HCT := Lib.hid (show Cost T by rw [hT]; exact cost_drop hD (at_ + 1))
      rw [← hdd, ← hT] at HTB
      have HDL := Lib.hid (show dd.length = L - at_ by rw [hdd, List.length_drop, ← hL])
      rw [← hL] at dl h1 h2 he ⊢
      rw [← hM] at pl ⊢
      have HMS := Lib.hid h1
      have ha : at_ ≤ L := by omega
      have ev : ((at_ : Int) == (L : Int) + 1) = false := beq_eq_false_iff_ne.2 (by omega)
      clear ih hD h0 hp0 hw hL hM hT hdd h1 h2 he
      go_enter Try.func28, Try.ntmps28
      go_wp2_with fail
      clear ev
      go_loopw [9, 23] (fun b i wr => ∃ k : Nat, k ≤ M ∧ i = .int .i64 k ∧ ∃ z : Int, b = .int .i64 z ∧ Hid (z = chV (stK dd ps tol T k)) ∧ Hid (∃ n, wr = w.drewN n)) (fun _ i _ => M - (intOf i).toNat)
      case atStart => exact ⟨0, by omega, rfl, -1, rfl, Lib.hid rfl, Lib.hid ⟨0, rfl⟩⟩
      case round =>
        obtain ⟨k, hk, rfl, z, rfl, HZ, W⟩ := hrel
        generalize wr = wo at *
        have HWO := Lib.hid (show ∃ n, wo = w0.drewN n by
          obtain ⟨n1, e1⟩ := HW.out
          obtain ⟨n2, e2⟩ := W.out
          exact ⟨n1 + n2, by rw [e2, e1, World.drewN_drewN]⟩)
        by_cases hlt : k < M
        · have hkp : k < ps.length := by rw [← HM.out]; exact hlt
          obtain ⟨ad, rfl, a1, cp, cc, hr, hm⟩ := (show PP wo A2 ps by obtain ⟨n, e⟩ := HWO.out; rw [e]; exact HP.out.drewN n).at_ (k := k) hkp
          have HCM := Lib.hid (HDV.out.cmp (k := k) hkp)
          obtain ⟨p, hp⟩ : ∃ p, p = ps.getD k [] := ⟨_, rfl⟩
          have HPP := Lib.hid hp
          rw [← hp] at cc hr hm HCM
          have HR := Lib.hid hr
          have p5 := HCM.out.p5
          obtain ⟨q, hq⟩ : ∃ q, q = p.length := ⟨_, rfl⟩
          have HQ := Lib.hid hq
          rw [← hq] at cc p5
          have HLT := Lib.hid hlt
          clear hp hr hm hq hkp
          by_cases hlong : L < at_ + q
          · have HS := Lib.hid (show stK dd ps tol T (k + 1) = stK dd ps tol T k from stK_nofit (by rw [← HPP.out]; exact cmpV_long (by rw [HDL.out, ← HQ.out]; omega)))
            have g1 : (L : Int) < (at_ : Int) + (q : Int) := by omega
            go_wp2_with fail
            go_roundw
            case rel => exact ⟨k + 1, by omega, by go_num, z, rfl, Lib.hid (by rw [HS.out]; exact HZ.out), W⟩
            case measure => simp [intOf] <;> omega
          · have g1 : ¬ (L : Int) < (at_ : Int) + (q : Int) := by omega
            have HV := Lib.hid (show cmpV dd p tol = cmpK dd p tol q by rw [HQ.out]; exact cmpV_at (by rw [HDL.out, ← HQ.out]; omega))
            have zb : -1 ≤ z ∧ z ≤ 100050000 := by
              rw [HZ.out]
              cases hst : stK dd ps tol T k with
              | none => exact ⟨by decide, by decide⟩
              | some y => have := stK_bd HDV.out HCT.out (by rw [← HM.out]; omega) hst; show -1 ≤ y.1 ∧ y.1 ≤ _; omega
            obtain ⟨zb1, zb2⟩ := zb
            go_wp2_with fail
            go_loopw [12, 13] (fun cv iv wr => ∃ (j : Nat) (s : Int), j ≤ q ∧ iv = .int .i64 j ∧ cv = .int .i64 s ∧ -1 ≤ s ∧ s ≤ 50000 ∧ Hid ((0 ≤ s ∧ cmpK dd p tol j = some s) ∨ (s = -1 ∧ cmpV dd p tol = none)) ∧ Hid (∃ n, wr = wo.drewN n)) (fun _ iv _ => q - (intOf iv).toNat)
            case atStart => exact ⟨0, 0, by omega, rfl, rfl, by decide, by decide, Lib.hid (Or.inl ⟨by decide, rfl⟩), Lib.hid ⟨0, rfl⟩⟩
            case round =>
              obtain ⟨j, s, hj, rfl, rfl, sb1, sb2, S, W2⟩ := hrel
              have HWR := Lib.hid (fun n : Nat => show ∃ m', wr.drewN n = wo.drewN m' from by obtain ⟨m', rfl⟩ := W2.out; exact ⟨m' + n, by rw [World.drewN_drewN]⟩)
              rcases S.out with ⟨s0, hcm⟩ | ⟨rfl, hno⟩
              · by_cases hjq : j < q
                · have HBW := (show Below w0.heap.size w0 wr from by
                    obtain ⟨n1, e1⟩ := HWO.out
                    obtain ⟨n2, e2⟩ := W2.out
                    rw [e2, e1, World.drewN_drewN]; exact bdn (Below.refl _ _))
                  have HBP := (show Below wo.heap.size wo wr from by obtain ⟨n2, e2⟩ := W2.out; rw [e2]; exact bdn (Below.refl _ _))
                  obtain ⟨a3, rfl, -, d1⟩ := (H.out.below HBW) (at_ + j) (by rw [← HL.out]; omega)
                  obtain ⟨a4, rfl, -, d2⟩ := (HR.out.below HBP) j (by rw [← HQ.out]; exact hjq)
                  have x1 := HCM.out.dd _ (getD_mem (k := j) (zs := dd) (by rw [HDL.out]; omega))
                  have y1 := HCM.out.pp _ (getD_mem (k := j) (zs := p) (by rw [← HQ.out]; exact hjq))
                  have exd : dd.getD j 0 = d.getD (at_ + j) 0 := by rw [HDD.out]; exact getD_dropI _ _ _
                  have sb := cmpK_bd hcm
                  obtain ⟨x, hx⟩ : ∃ x, x = d.getD (at_ + j) 0 := ⟨_, rfl⟩
                  obtain ⟨y, hy⟩ : ∃ y, y = p.getD j 0 := ⟨_, rfl⟩
                  rw [← hx] at exd d1
                  rw [← hy] at d2 y1
                  rw [exd] at x1
                  have HBAD := Lib.hid (show ¬ ab x y ≤ tol → cmpV dd p tol = none from fun g => by rw [HV.out]; exact cmpK_none (cmpK_bad (by rw [exd, ← hy]; exact g)) hjq)
                  have HGOOD := Lib.hid (show ab x y ≤ tol → cmpK dd p tol (j + 1) = some (s + ab x y) from fun g => by have := cmpK_good hcm (by rw [exd, ← hy]; exact g); rw [exd, ← hy] at this; exact this)
                  have HSB := Lib.hid (show ab x y ≤ tol → 0 ≤ s + ab x y ∧ s + ab x y ≤ 50000 from fun g => by
                    have h1 := cmpK_bd (HGOOD.out g)
                    have h2 : tol * ((j + 1 : Nat) : Int) ≤ 10000 * 5 := Int.mul_le_mul t1 (by omega) (by omega) (by omega)
                    omega)
                  obtain ⟨D, hD⟩ : ∃ D, D = ab x y := ⟨_, rfl⟩
                  have hDb : 0 ≤ D ∧ D ≤ 10000 := by rw [hD]; exact ⟨ab_nn _ _, ab_le (by omega) (by omega)⟩
                  have hmx : ∀ w ts t, (Builtin.max_ ts t #[.int .i64 (x - y), .int .i64 (y - x)]).run Try.prog w = .ok (.int .i64 D) w := fun w ts t => by rw [run_max2, hD]; rfl
                  have w1 : IntKind.i64.wrap (x - y) = x - y := IntWalk.i64_in _ (by omega)
                  have w2 : IntKind.i64.wrap (y - x) = y - x := IntWalk.i64_in _ (by omega)
                  have w3 : IntKind.i64.wrap ((at_ : Int) + (j : Int)) = (at_ : Int) + (j : Int) := IntWalk.i64_in _ (by omega)
                  have k0 : (0 : Int) ≤ (at_ : Int) + (j : Int) := by omega
                  have k1 : (at_ : Int) + (j : Int) < (L : Int) := by omega
                  have k2 : ((at_ : Int) + (j : Int)).toNat = at_ + j := by omega
                  have k3 : (0 : Int) ≤ (j : Int) := by omega
                  have k4 : (j : Int) < (q : Int) := by omega
                  rw [← hD] at HBAD HGOOD HSB
                  obtain ⟨hd1, hd2⟩ := hDb
                  clear hx hy hD sb HBW HBP W2 exd hcm x1 y1 S
                  go_upto_region 12 with fail
                  go_region
                  have HW1 := Lib.hid (HWR.out 1)
                  have e1 : wr.drewN 1 = wr.drew := rfl
                  rw [e1] at HW1
                  clear d1 d2 hmx w1 w2 w3 e1
                  by_cases hbd : tol < D
                  · have HF := Lib.hid (HBAD.out (by omega))
                    go_wp2_with fail
                    go_roundw
                    case rel => exact ⟨j + 1, -1, by omega, by go_num, rfl, by decide, by decide, Lib.hid (Or.inr ⟨rfl, HF.out⟩), HW1⟩
                    case measure => simp [intOf] <;> omega
                  · have HG := Lib.hid (HGOOD.out (by omega))
                    have HS2 := Lib.hid (HSB.out (by omega))
                    go_wp2_with fail
                    go_roundw
                    case rel => exact ⟨j + 1, s + D, by omega, by go_num, rfl, by have := HS2.out; omega, by have := HS2.out; omega, Lib.hid (Or.inl ⟨HS2.out.1, HG.out⟩), HW1⟩
                    case measure => simp [intOf] <;> omega
                · obtain rfl : j = q := by omega
                  have HCV := Lib.hid (show cmpV (dd) (ps.getD k []) tol = some s by rw [← HPP.out]; exact HV.out.trans hcm)
                  have HWX := Lib.hid (show ∃ n, wr = w0.drewN n by
                    obtain ⟨n1, e1⟩ := HWO.out
                    obtain ⟨n2, e2⟩ := W2.out
                    exact ⟨n1 + n2, by rw [e2, e1, World.drewN_drewN]⟩)
                  have HWY := Lib.hid (show ∃ n, wr = w.drewN n by
                    obtain ⟨n1, e1⟩ := W.out
                    obtain ⟨n2, e2⟩ := W2.out
                    exact ⟨n1 + n2, by rw [e2, e1, World.drewN_drewN]⟩)
                  have hrec := IH.out (at_ + j + 1) wr (by rw [← HL.out]; have := HMS.out; omega) (by rw [← HL.out]; omega) HWX.out
                  rw [← HL.out, ← HM.out] at hrec
                  have ecast : ((at_ + j + 1 : Nat) : Int) = (at_ : Int) + (j : Int) + 1 := rfl
                  rw [ecast] at hrec
                  obtain ⟨X, hX⟩ : ∃ X, X = (tb ps tol d).getD (at_ + j + 1) none := ⟨_, rfl⟩
                  have HX := Lib.hid (show T.getD (ps.getD k []).length none = X by rw [HT.out, getD_drop, ← HPP.out, ← HQ.out, hX]; congr 1; omega)
                  rw [← hX] at hrec
                  clear hX hcm S W2 ecast hjq
                  go_wp2_with fail
                  refine hrec.mono ?_
                  rintro e w5 ⟨rfl, n5, rfl⟩
                  have HW5 := Lib.hid (show ∃ n, wr.drewN n5 = w.drewN n by obtain ⟨n1, e1⟩ := HWY.out; exact ⟨n1 + n5, by rw [e1, World.drewN_drewN]⟩)
                  generalize wr.drewN n5 = w5 at *
                  clear hrec cc
                  cases X with
                  | none =>
                    have HS := Lib.hid (show chV (stK dd ps tol T (k + 1)) = z by rw [stK_norest HCV.out HX.out, HZ.out])
                    have ex : chV none = -1 := rfl
                    rw [ex]
                    clear ex
                    go_wp2_with fail
                    go_roundw
                    case rel => exact ⟨k + 1, by omega, by go_num, z, rfl, Lib.hid HS.out.symm, HW5⟩
                    case measure => have := HLT.out; simp [intOf] <;> omega
                  | some r =>
                    have rb := HCT.out _ _ HX.out
                    have ex : chV (some r) = r.1 := rfl
                    rw [ex]
                    obtain ⟨r1, r2⟩ := rb
                    clear ex
                    cases hst : stK dd ps tol T k with
                    | none =>
                      have HS := Lib.hid (show chV (stK dd ps tol T (k + 1)) = s + r.1 by rw [stK_first HCV.out HX.out hst]; rfl)
                      have hz : z = -1 := by rw [HZ.out, hst]; rfl
                      subst hz
                      clear hst
                      go_wp2_with fail
                      go_roundw
                      case rel => exact ⟨k + 1, by omega, by go_num, _, rfl, Lib.hid HS.out.symm, HW5⟩
                      case measure => have := HLT.out; simp [intOf] <;> omega
                    | some y =>
                      have yb := stK_bd HDV.out HCT.out (by rw [← HM.out]; have := HLT.out; omega) hst
                      have hz : z = y.1 := by rw [HZ.out, hst]; rfl
                      by_cases hl : s + r.1 < y.1
                      · have HS := Lib.hid (show chV (stK dd ps tol T (k + 1)) = s + r.1 by rw [stK_less HCV.out HX.out hst hl]; rfl)
                        have hz0 : ¬ z < 0 := by omega
                        have hz1 : s + r.1 < z := by omega
                        clear hst hl yb hz
                        go_wp2_with fail
                        go_roundw
                        case rel => exact ⟨k + 1, by omega, by go_num, _, rfl, Lib.hid HS.out.symm, HW5⟩
                        case measure => have := HLT.out; simp [intOf] <;> omega
                      · have HS := Lib.hid (show chV (stK dd ps tol T (k + 1)) = z by rw [stK_not HCV.out HX.out hst hl, hz]; rfl)
                        have hz0 : ¬ z < 0 := by omega
                        have hz1 : ¬ s + r.1 < z := by omega
                        clear hst hl yb hz
                        go_wp2_with fail
                        go_roundw
                        case rel => exact ⟨k + 1, by omega, by go_num, z, rfl, Lib.hid HS.out.symm, HW5⟩
                        case measure => have := HLT.out; simp [intOf] <;> omega
              · have HS := Lib.hid (show stK dd ps tol T (k + 1) = stK dd ps tol T k from stK_nofit (by rw [← HPP.out]; exact hno))
                have HWY := Lib.hid (show ∃ n, wr = w.drewN n by
                  obtain ⟨n1, e1⟩ := W.out
                  obtain ⟨n2, e2⟩ := W2.out
                  exact ⟨n1 + n2, by rw [e2, e1, World.drewN_drewN]⟩)
                clear hno S W2
                by_cases hjq : j < q
                · go_wp2_with fail
                  go_roundw
                  case rel => exact ⟨k + 1, by omega, by go_num, z, rfl, Lib.hid (by rw [HS.out]; exact HZ.out), HWY⟩
                  case measure => have := HLT.out; simp [intOf] <;> omega
                · go_wp2_with fail
                  go_roundw
                  case rel => exact ⟨k + 1, by omega, by go_num, z, rfl, Lib.hid (by rw [HS.out]; exact HZ.out), HWY⟩
                  case measure => have := HLT.out; simp [intOf] <;> omega
        · obtain rfl : k = M := by omega
          have HE := Lib.hid (show chV ((tb ps tol d).getD at_ none) = z by rw [HTB.out, HZ.out]; unfold stp; rw [← HM.out])
          go_wp2_with fail
          go_ret
          exact ⟨ret_int HE.out.symm, W.out⟩
end Go.Proofs.Ytgiodpepjajlmaa
