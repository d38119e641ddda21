/-
  Stage 7: the program's divide.
-/
import Derived.Test.YtgiodpepjajlmaaWCmp
set_option linter.unusedSimpArgs false
set_option linter.unusedVariables false
namespace Go.Proofs.Ytgiodpepjajlmaa
open Go.RowKit

/-- What is divided: distances, patterns, the tolerance. -/
structure Dvd (d : List Int) (ps : List (List Int)) (tol : Int) : Prop where
  dd : ∀ z ∈ d, 1 ≤ z ∧ z ≤ 10000
  pp : ∀ p ∈ ps, p.length ≤ 5 ∧ ∀ z ∈ p, 1 ≤ z ∧ z ≤ 10000
  t0 : 0 ≤ tol
  t1 : tol ≤ 10000
  pl : ps.length ≤ 16
  dl : d.length ≤ 768
theorem getD_memL {α : Type} {l : List α} {k : Nat} {z : α} (h : k < l.length) : l.getD k z ∈ l := by
  rw [List.getD_eq_getElem?_getD, List.getElem?_eq_getElem h]; exact List.getElem_mem h
theorem Dvd.cmp {d : List Int} {ps : List (List Int)} {tol : Int} (h : Dvd d ps tol) {k : Nat} (hk : k < ps.length) : Cmp d (ps.getD k []) tol :=
  ⟨h.dd, (h.pp _ (getD_memL hk)).2, h.t0, h.t1, (h.pp _ (getD_memL hk)).1, h.dl⟩
/-- Costs are bounded. -/
def Cost (T : List Cel3) : Prop := ∀ j z, T.getD j none = some z → 0 ≤ z.1 ∧ z.1 ≤ 100000000
theorem stK_bd {d : List Int} {ps : List (List Int)} {tol : Int} {T : List Cel3} (h : Dvd d ps tol) (hT : Cost T) {k : Nat} (hk : k ≤ ps.length) {z : Int × Nat} (hz : stK d ps tol T k = some z) : 0 ≤ z.1 ∧ z.1 ≤ 100050000 ∧ z.2 < k := by
  obtain ⟨h1, c, x, h2, h3, h4⟩ := stK_some hz
  have h5 := cmpV_bd h2
  have h6 := hT _ _ h3
  have h7 := (h.cmp (k := z.2) (by omega)).p5
  have h8 : tol * ((ps.getD z.2 []).length : Int) ≤ 10000 * 5 := Int.mul_le_mul h.t1 (by omega) (by omega) (by omega)
  omega
def DivPost (z : Cel3) (w : World) (e : Ending) (w' : World) : Prop := e = .returned (aggB z) ∧ Below w.heap.size w w'
set_option maxHeartbeats 3200000 in
theorem div_any (d : List Int) (ps : List (List Int)) (tol : Int) (Bs : List Cel3) (A A2 A3 : Option Addr) (L c c2 c3 NB : Nat) (w : World) (hL : L = d.length) (hNB : NB = Bs.length) (h : Row .i64 w w.heap.size A d) (h2 : PP w A2 ps) (h3 : RRow BR w A3 Bs) (hc : Dvd d ps tol) (hB : d.length + 2 ≤ Bs.length) (hT : Cost (Bs.drop 1)) :
    Calls Try.prog 30 #[.slice A L c, .slice A2 ps.length c2, .int .i64 tol, .slice A3 NB c3] w (DivPost (stp d ps tol (Bs.drop 1)) w) := by
  have pl := hc.pl
  have H := Lib.hid h
  have H2 := Lib.hid h2
  have H3 := Lib.hid h3
  have HC := Lib.hid hc
  have HT := Lib.hid hT
  have HB := Lib.hid hB
  have HL := Lib.hid hL
  have HNB := Lib.hid hNB
  have hnb : NB ≤ 9223372036854775807 := by rw [hNB]; exact h3.len
  obtain ⟨M, hM⟩ : ∃ n, n = ps.length := ⟨_, rfl⟩
  have HM := Lib.hid hM
  rw [← hM] at pl ⊢
  obtain ⟨B0, hB0⟩ : ∃ b, b = w.heap.size := ⟨_, rfl⟩
  have HB0 := Lib.hid hB0
  obtain ⟨T, hTT⟩ : ∃ T, T = Bs.drop 1 := ⟨_, rfl⟩
  have HTT := Lib.hid hTT
  rw [← hTT] at HT ⊢
  clear h h2 h3 hc hT hB hL hNB hM hB0 hTT
  go_enter Try.func30, Try.ntmps30
  go_wp2_with fail
  rw [← HB0.out]
  go_loopw [16] (fun i wr => ∃ k : Nat, k ≤ M ∧ i = .int .i64 k ∧ Hid (BLoc wr (B0 + 1) (stK d ps tol T k)) ∧ Hid (BLoc wr B0 none) ∧ Hid (Below B0 w wr)) (fun i _ => M - (intOf i).toNat)
  case atStart =>
    rw [HB0.out]
    refine ⟨0, by omega, rfl, Lib.hid ?_, Lib.hid ((BLoc.new w _ _ rfl).alloc _), Lib.hid (((Below.refl _ _).alloc (Nat.le_refl _) _).alloc (by simp) _)⟩
    exact BLoc.new (w.alloc _) _ _ (by simp)
  case round =>
    obtain ⟨k, hk, rfl, Z, R, B⟩ := hrel
    have hb0 : B0 < wr.heap.size := R.out.lt
    by_cases hlt : k < M
    · have HW := Lib.hid (show Below w.heap.size w wr by rw [← HB0.out]; exact B.out)
      obtain ⟨ad, rfl, a1, cp, cc, hr, hm⟩ := (H2.out.below HW.out).at_ (k := k) (by rw [← HM.out]; exact hlt)
      have HCM := Lib.hid (HC.out.cmp (k := k) (by rw [← HM.out]; exact hlt))
      obtain ⟨p, hp⟩ : ∃ p, p = ps.getD k [] := ⟨_, rfl⟩
      have HP := Lib.hid hp
      rw [← hp] at cc hr hm HCM
      have HR := Lib.hid hr
      have p5 := HCM.out.p5
      obtain ⟨q, hq⟩ : ∃ q, q = p.length := ⟨_, rfl⟩
      have HQ := Lib.hid hq
      rw [← hq] at cc p5
      clear hp hr hm hq
      go_wp2_with fail
      refine (show Calls _ _ _ _ _ from by
        have := cmp_any d p tol A a1 c cp wr ((H.out.below HW.out)) HR.out HCM.out
        rw [← HL.out, ← HQ.out] at this
        exact this).mono ?_
      rintro e w' ⟨rfl, nn, rfl⟩
      have Z1 := Lib.hid (Z.out.drewN nn)
      have R1 := Lib.hid (R.out.drewN nn)
      have B1 := Lib.hid (bdn (n := nn) B.out)
      have HW1 := Lib.hid (bdn (n := nn) HW.out)
      generalize wr.drewN nn = w1 at *
      clear cc Z R B HW HR
      cases hcv : cmpV d p tol with
      | none =>
        have HS := Lib.hid (show stK d ps tol T (k + 1) = stK d ps tol T k from stK_nofit (by rw [← HP.out]; exact hcv))
        clear hcv
        go_wp2_with fail
        go_roundw
        case rel => exact ⟨k + 1, by omega, by go_num, Lib.hid (by rw [HS.out]; exact Z1.out), R1, B1⟩
        case measure => simp [intOf] <;> omega
      | some s =>
        have hsb := cmpV_bd hcv
        have HCV := Lib.hid hcv
        have hqd : q ≤ d.length := by rw [HQ.out]; exact hsb.1
        have hsb2 : 0 ≤ s ∧ s ≤ 50000 := by
          have : tol * (p.length : Int) ≤ 10000 * 5 := Int.mul_le_mul HC.out.t1 (by rw [← HQ.out]; omega) (by omega) (by omega)
          omega
        obtain ⟨s1, s2⟩ := hsb2
        have hqn : q + 1 < NB := by rw [HNB.out]; have := HB.out; omega
        obtain ⟨ad3, rfl, C⟩ := (H3.out.below HW1.out).at_ (getD_ex none (k := q + 1) (by rw [← HNB.out]; exact hqn))
        obtain ⟨x, hx⟩ : ∃ x, x = Bs.getD (q + 1) none := ⟨_, rfl⟩
        have HX := Lib.hid (show T.getD (ps.getD k []).length none = x by rw [HTT.out, getD_drop, ← HP.out, ← HQ.out, hx, Nat.add_comm])
        rw [← hx] at C
        obtain ⟨c0, c1, -⟩ := BSpelt.of C
        have hq1 : (q : Int) + 1 < (NB : Int) := by omega
        clear hcv hsb hqd hx C
        cases x with
        | none =>
          have HS := Lib.hid (show stK d ps tol T (k + 1) = stK d ps tol T k from stK_norest (by rw [← HP.out]; exact HCV.out) HX.out)
          replace c0 : w1.cell? (ad3.add ((q + 1) * 3)) = some (.bool false) := c0
          clear c1
          go_wp2_with (first | (go_at_call 31; refine (axof_any a1 q cp _ (by omega)).mono ?_; rintro e w' ⟨rfl, rfl⟩))
          go_roundw
          case rel => exact ⟨k + 1, by omega, by go_num, Lib.hid (by rw [HS.out]; exact Z1.out), R1, B1⟩
          case measure => simp [intOf] <;> omega
        | some z =>
          replace c0 : w1.cell? (ad3.add ((q + 1) * 3)) = some (.bool true) := c0
          replace c1 : w1.cell? ⟨(ad3.add ((q + 1) * 3)).block, (ad3.add ((q + 1) * 3)).off + 1, none⟩ = some (.int .i64 z.1) := c1
          have zb := HT.out _ _ HX.out
          have HCK := Lib.hid (show cmpV d (ps.getD k []) tol = some s by rw [← HP.out]; exact HCV.out)
          obtain ⟨zb1, zb2⟩ := zb
          cases hst : stK d ps tol T k with
          | none =>
            have HS := Lib.hid (stK_first HCK.out HX.out hst)
            rw [hst] at Z1
            clear hst
            have Z0 := Z1.out
            obtain ⟨l0, l1, l2, lf, ll⟩ := Z0
            have f0 := lf 0
            have f1 := lf 1
            have f2 := lf 2
            replace l0 : w1.cell? ⟨B0 + 1, 0, none⟩ = some (.bool false) := l0
            replace l1 : w1.cell? ⟨B0 + 1, 1, none⟩ = some (.int .i64 0) := l1
            replace l2 : w1.cell? ⟨B0 + 1, 2, none⟩ = some (.int .i64 0) := l2
            have BZ := Lib.hid (Z1.out.put (some (s + z.1, k)))
            have RZ := Lib.hid (R1.out.putOther (g := B0 + 1) (y := some (s + z.1, k)) (by omega))
            have BB := Lib.hid (below_putL B1.out (g := B0 + 1) (by omega) (some (s + z.1, k)))
            clear lf ll Z1 R1 B1
            go_wp2_with (first | (go_at_call 31; refine (axof_any a1 q cp _ (by omega)).mono ?_; rintro e w' ⟨rfl, rfl⟩))
            go_roundw
            case rel => exact ⟨k + 1, by omega, by go_num, Lib.hid (by rw [HS.out]; exact BZ.out), RZ, BB⟩
            case measure => simp [intOf] <;> omega
          | some y =>
            have Z0 := Z1.out
            rw [hst] at Z0
            obtain ⟨l0, l1, l2, lf, ll⟩ := Z0
            have f0 := lf 0
            have f1 := lf 1
            have f2 := lf 2
            replace l0 : w1.cell? ⟨B0 + 1, 0, none⟩ = some (.bool true) := l0
            replace l1 : w1.cell? ⟨B0 + 1, 1, none⟩ = some (.int .i64 y.1) := l1
            replace l2 : w1.cell? ⟨B0 + 1, 2, none⟩ = some (.int .i64 (y.2 : Int)) := l2
            by_cases hl : s + z.1 < y.1
            · have HS := Lib.hid (stK_less HCK.out HX.out hst hl)
              have BZ := Lib.hid (Z1.out.put (some (s + z.1, k)))
              have RZ := Lib.hid (R1.out.putOther (g := B0 + 1) (y := some (s + z.1, k)) (by omega))
              have BB := Lib.hid (below_putL B1.out (g := B0 + 1) (by omega) (some (s + z.1, k)))
              clear lf ll Z1 R1 B1 hst
              go_wp2_with (first | (go_at_call 31; refine (axof_any a1 q cp _ (by omega)).mono ?_; rintro e w' ⟨rfl, rfl⟩))
              go_roundw
              case rel => exact ⟨k + 1, by omega, by go_num, Lib.hid (by rw [HS.out]; exact BZ.out), RZ, BB⟩
              case measure => simp [intOf] <;> omega
            · have HS := Lib.hid ((stK_not HCK.out HX.out hst hl).trans hst.symm)
              clear lf ll hst
              go_wp2_with (first | (go_at_call 31; refine (axof_any a1 q cp _ (by omega)).mono ?_; rintro e w' ⟨rfl, rfl⟩))
              go_roundw
              case rel => exact ⟨k + 1, by omega, by go_num, Lib.hid (by rw [HS.out]; exact Z1.out), R1, B1⟩
              case measure => simp [intOf] <;> omega
    · obtain rfl : k = M := by omega
      have HS := Lib.hid (show stp d ps tol T = stK d ps tol T k by rw [HM.out]; rfl)
      obtain ⟨x, hx⟩ : ∃ x, x = stK d ps tol T k := ⟨_, rfl⟩
      have Z1 := Z.out
      rw [← hx] at Z1
      obtain ⟨l0, l1, l2, lf, ll⟩ := Z1
      obtain ⟨r0, r1, r2, rf, rl⟩ := R.out
      have f0 := rf 0
      have f1 := rf 1
      have f2 := rf 2
      replace r0 : wr.cell? ⟨B0, 0, none⟩ = some (.bool false) := r0
      replace r1 : wr.cell? ⟨B0, 1, none⟩ = some (.int .i64 0) := r1
      replace r2 : wr.cell? ⟨B0, 2, none⟩ = some (.int .i64 0) := r2
      have RZ := Lib.hid (R.out.put x)
      have BB := Lib.hid (below_putL B.out (g := B0) (Nat.le_refl _) x)
      have HX := Lib.hid (HS.out.trans hx.symm)
      clear hx Z R B lf ll rf rl
      go_wp2_with fail
      refine bodyPost_ret (results_rec (R := BR) rfl Try.underlying55 rfl infoB3 _ _ B0 x rfl RZ.out.blk) rfl ?_
      exact ⟨by rw [HX.out]; rfl, by rw [← HB0.out]; exact BB.out⟩
end Go.Proofs.Ytgiodpepjajlmaa
