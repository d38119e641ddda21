/-
  Stage 8: the reference's Verify.
-/
import Derived.Test.YtbdiilkdajadcaaDoorRVerS
import Derived.Test.YtbdiilkdajadcaaDoorREdit
set_option linter.unusedSimpArgs false
set_option linter.unusedVariables false
namespace Go.Proofs.YtbdiilkdajadcaaDoor
open Go.RowKit

/-- The edits that were looked at leave the table within its bounds. -/
def Chk (a b : List Int) (ps : List (List Int)) (i j : Nat) (D : Nat → Prop) : Prop := ∀ x y n, x ≤ a.length → y ≤ b.length → okP a b x y n = true → (x < i ∨ (x = i ∧ y < j) ∨ (x = i ∧ y = j ∧ D n)) → at2 ps (x + dA n) (y + dB n) ≤ at2 ps x y + dC n
theorem Chk.start {a b : List Int} {ps : List (List Int)} : Chk a b ps 0 0 (fun _ => False) := fun x y n _ _ _ h => by
  rcases h with h | h | h
  · omega
  · omega
  · exact h.2.2.elim
theorem Chk.next {a b : List Int} {ps : List (List Int)} {i j : Nat} {D : Nat → Prop} (h : Chk a b ps i j D) (hD : ∀ n, okP a b i j n = true → D n) : Chk a b ps i (j + 1) (fun _ => False) := fun x y n hx hy ho hd => by
  refine h x y n hx hy ho ?_
  rcases hd with hd | hd | hd
  · exact Or.inl hd
  · by_cases e : y = j
    · obtain ⟨rfl, _⟩ := hd; subst e
      exact Or.inr (Or.inr ⟨rfl, rfl, hD n ho⟩)
    · exact Or.inr (Or.inl (by omega))
  · exact hd.2.2.elim
theorem Chk.row {a b : List Int} {ps : List (List Int)} {i : Nat} (h : Chk a b ps i (b.length + 1) (fun _ => False)) : Chk a b ps (i + 1) 0 (fun _ => False) := fun x y n hx hy ho hd => by
  refine h x y n hx hy ho ?_
  rcases hd with hd | hd | hd
  · by_cases e : x = i
    · exact Or.inr (Or.inl (by omega))
    · exact Or.inl (by omega)
  · omega
  · exact hd.2.2.elim
theorem Chk.step {a b : List Int} {ps : List (List Int)} {i j n : Nat} {D D' : Nat → Prop} (h : Chk a b ps i j D) (hD : ∀ m, okP a b i j m = true → D' m → D m ∨ m = n) (hn : okP a b i j n = true → at2 ps (i + dA n) (j + dB n) ≤ at2 ps i j + dC n) : Chk a b ps i j D' := fun x y m hx hy ho hd => by
  rcases hd with hd | hd | ⟨rfl, rfl, hd⟩
  · exact h x y m hx hy ho (Or.inl hd)
  · exact h x y m hx hy ho (Or.inr (Or.inl hd))
  · rcases hD m ho hd with q | q
    · exact h x y m hx hy ho (Or.inr (Or.inr ⟨rfl, rfl, q⟩))
    · subst q; exact hn ho
theorem Chk.ver {a b : List Int} {ps : List (List Int)} {cost : Int} (h : Chk a b ps (a.length + 1) 0 (fun _ => False)) (hl : ¬ lngP a b) (hs : Shp ps (a.length + 1) (b.length + 1)) (hz : at2 ps 0 0 = 0) (ht : cost ≤ at2 ps a.length b.length) : Ver a b cost ps :=
  ⟨hl, hs, hz, ht, fun x y n hx hy ho => h x y n hx hy ho (Or.inl (by omega))⟩
set_option maxRecDepth 100000 in
set_option maxHeartbeats 6400000 in
theorem rver_any (a b : List Int) (cost : Int) (ps : List (List Int)) (A B P : Option Addr) (ca cb cp : Nat) (w : World) (la : a.length ≤ 1000000000) (lb : b.length ≤ 1000000000) (lp : ps.length ≤ maxLen) (ha : Row .i64 w w.heap.size A a) (hb : Row .i64 w w.heap.size B b) (hp : PP w P ps) (hwd : Wid ps) :
    Calls Tryd.prog 23 #[.slice A a.length ca, .slice B b.length cb, .int .i64 cost, .slice P ps.length cp] w (VerPost a b cost ps w) := by
  have HL := Lib.hid (rlong_any A B a.length ca b.length cb w la lb)
  have HA := Lib.hid ha
  have HB := Lib.hid hb
  have HP := Lib.hid hp
  have HWD := Lib.hid hwd
  obtain ⟨N, hN⟩ : ∃ N, N = ps.length := ⟨_, rfl⟩
  have HN := Lib.hid hN
  rw [← hN] at lp ⊢
  unfold maxLen at lp
  clear ha hb hp hwd hN
  by_cases hl : lngP a b
  · rw [decide_eq_true (show 96 < a.length ∨ 96 < b.length from hl)] at HL
    have HF := Lib.hid (show ¬ Ver a b cost ps from fun h => h.sml hl)
    clear hl
    go_enter Tryd.func23, Tryd.ntmps23
    go_wp2_with (first | (go_at_call 31; refine HL.out.mono ?_; rintro e w' ⟨rfl, rfl⟩))
    go_ret
    exact VerPost.no HF.out (Below.refl _ _)
  rw [decide_eq_false (show ¬ (96 < a.length ∨ 96 < b.length) from hl)] at HL
  have l1 : a.length ≤ 96 := by unfold lngP at hl; omega
  have l2 : b.length ≤ 96 := by unfold lngP at hl; omega
  have HNL := Lib.hid hl
  clear hl la lb
  by_cases hn : N = a.length + 1
  · have e1 : ((N : Int) == (a.length : Int) + 1) = true := beq_iff_eq.2 (by omega)
    have e2 : ((N : Int) != (a.length : Int) + 1) = false := by simp [bne, e1]
    go_enter Tryd.func23, Tryd.ntmps23
    go_wp2_with (first | (go_at_call 31; refine HL.out.mono ?_; rintro e w' ⟨rfl, rfl⟩))
    clear HL e1 e2
    go_loop [9] (fun i => ∃ k : Nat, k ≤ a.length + 1 ∧ i = .int .i64 (k : Int) ∧ Hid (∀ x, x < k → (ps.getD x []).length = b.length + 1)) (fun i => a.length + 1 - (intOf i).toNat)
    case atStart => exact ⟨0, by omega, rfl, Lib.hid (fun x hx => absurd hx (Nat.not_lt_zero x))⟩
    case round =>
      obtain ⟨k, hk, rfl, G⟩ := hrel
      by_cases hlt : k ≤ a.length
      · obtain ⟨ad, rfl, a1, c1, hc, -, hm⟩ := HP.out.at_ (k := k) (by rw [← HN.out]; omega)
        obtain ⟨q, hq⟩ : ∃ q, q = (ps.getD k []).length := ⟨_, rfl⟩
        rw [← hq] at hc hm
        unfold maxLen at hm
        have HQ := Lib.hid hq
        have k1 : (k : Int) ≤ (a.length : Int) := by omega
        have k2 : (k : Int) < (N : Int) := by omega
        clear hq
        by_cases hql : q = b.length + 1
        · have f1 : ((q : Int) == (b.length : Int) + 1) = true := beq_iff_eq.2 (by omega)
          have f2 : ((q : Int) != (b.length : Int) + 1) = false := by simp [bne, f1]
          have HG := Lib.hid (show ∀ x, x < k + 1 → (ps.getD x []).length = b.length + 1 from fun x hx => by
            by_cases e : x = k
            · subst e; rw [← HQ.out]; exact hql
            · exact G.out x (by omega))
          clear hql
          go_wp2_with fail
          go_round
          case rel => exact ⟨k + 1, by omega, by go_num, HG⟩
          case measure => simp [intOf] <;> omega
        · have f1 : ((q : Int) == (b.length : Int) + 1) = false := beq_eq_false_iff_ne.2 (by omega)
          have f2 : ((q : Int) != (b.length : Int) + 1) = true := by simp [bne, f1]
          have HF := Lib.hid (show ¬ Ver a b cost ps from fun h => hql (by rw [HQ.out]; exact h.shp.row k (by omega)))
          go_wp2_with fail
          go_ret
          exact VerPost.no HF.out (Below.refl _ _)
      · obtain rfl : k = a.length + 1 := by omega
        have HSH := Lib.hid (show Shp ps (a.length + 1) (b.length + 1) from ⟨by rw [← HN.out]; exact hn, fun i hi => G.out i (by omega)⟩)
        have k1 : ¬ ((a.length : Int) + 1) ≤ (a.length : Int) := by omega
        have k2 : ¬ (((a.length + 1 : Nat) : Int)) ≤ (a.length : Int) := by omega
        obtain ⟨ad, rfl, -⟩ := HP.out.at_ (k := 0) (by rw [← HN.out]; omega)
        obtain ⟨az, cz, z1, z2⟩ := HP.out.cells HSH.out (x := 0) (y := 0) (by omega) (by omega)
        subst hn
        have n0 : (0 : Int) < (a.length : Int) + 1 := by omega
        have m0 : (0 : Int) < (b.length : Int) + 1 := by omega
        rw [show ad.add 0 = ad from rfl] at z1
        rw [show az.add 0 = az from rfl] at z2
        clear G
        by_cases hz : at2 ps 0 0 = 0
        · have HZ := Lib.hid hz
          rw [hz] at z2
          clear hz
          go_wp2_with fail
          clear z1 z2
          have HC0 := Lib.hid (Chk.start (a := a) (b := b) (ps := ps))
          go_loopw [10] (fun v wr => ∃ i : Nat, i ≤ a.length + 1 ∧ v = .int .i64 (i : Int) ∧ Hid (Chk a b ps i 0 (fun _ => False)) ∧ Hid (Below w.heap.size w wr)) (fun v _ => a.length + 1 - (intOf v).toNat)
          case atStart => exact ⟨0, by omega, rfl, HC0, Lib.hid (Below.refl _ _)⟩
          case round =>
            clear HC0
            obtain ⟨i, hi, rfl, HC, HBL⟩ := hrel
            by_cases hlt2 : i ≤ a.length
            · have i1 : (i : Int) ≤ (a.length : Int) := by omega
              have i2 : (i : Int) < (a.length : Int) + 1 := by omega
              have i0' : (0 : Int) ≤ (i : Int) := by omega
              go_wp2_with fail
              generalize wr = wo at *
              go_loopw [11] (fun v wr => ∃ j : Nat, j ≤ b.length + 1 ∧ v = .int .i64 (j : Int) ∧ Hid (Chk a b ps i j (fun _ => False)) ∧ Hid (Below w.heap.size w wr)) (fun v _ => b.length + 1 - (intOf v).toNat)
              case atStart => exact ⟨0, by omega, rfl, HC, HBL⟩
              case round =>
                clear HC HBL
                obtain ⟨j, hj, rfl, HC, HBL⟩ := hrel
                by_cases hltj : j ≤ b.length
                · have j1 : (j : Int) ≤ (b.length : Int) := by omega
                  have j2 : (j : Int) < (b.length : Int) + 1 := by omega
                  have j0' : (0 : Int) ≤ (j : Int) := by omega
                  have HC1 := Lib.hid (show Chk a b ps i j (fun m => m < 0) from HC.out.step (n := 9) (fun m hm h => by omega) (fun h => by have := okP_lt h; omega))
                  clear HC
                  go_wp2_with fail
                  generalize wr = wp at *
                  go_loopw [12] (fun v wr => ∃ q : Nat, q ≤ 5 ∧ v = .int .i64 (q : Int) ∧ Hid (Chk a b ps i j (fun m => m < q)) ∧ Hid (Below w.heap.size w wr)) (fun v _ => 5 - (intOf v).toNat)
                  case atStart => exact ⟨0, by omega, rfl, HC1, HBL⟩
                  case round =>
                    clear HC1 HBL
                    obtain ⟨q, hq, rfl, HC, HBL⟩ := hrel
                    by_cases hltk : q < 5
                    · have k1' : (q : Int) ≤ 4 := by omega
                      have EDT := edt_any q hltk a b A B ca cb i j wr ((HA.out.under HBL.out).more HBL.out.size) ((HB.out.under HBL.out).more HBL.out.size) (by omega) (by omega) (by omega) (by omega)
                      by_cases hop : okP a b i j q = true
                      · rw [hop] at EDT
                        obtain ⟨h5, hiA, hjB, hd1, hc0, hc4, -⟩ := okP_in hlt2 hltj hop
                        have HN1 := fun W (k : Below w.heap.size w W) => near_any (at2 ps (i + dA q) (j + dB q)) (at2 ps i j) (dC q) W (HWD.out _ _) (HWD.out _ _) ⟨hc0, hc4⟩
                        have HN1 := Lib.hid HN1
                        have HSTP := Lib.hid (show at2 ps (i + dA q) (j + dB q) ≤ at2 ps i j + dC q → Chk a b ps i j (fun m => m < q + 1) from fun h => HC.out.step (n := q) (fun m _ h => by omega) (fun _ => h))
                        have HBAD := Lib.hid (show ¬ at2 ps (i + dA q) (j + dB q) ≤ at2 ps i j + dC q → ¬ Ver a b cost ps from fun h k => h (k.le i j q hlt2 hltj hop))
                        obtain ⟨I, eI⟩ : ∃ I, I = i + dA q := ⟨_, rfl⟩
                        obtain ⟨J, eJ⟩ : ∃ J, J = j + dB q := ⟨_, rfl⟩
                        rw [← eI, ← eJ] at EDT HN1 HSTP HBAD
                        rw [← eI] at hiA
                        rw [← eJ] at hjB
                        have I0 : (0 : Int) ≤ (I : Int) := by omega
                        have J0 : (0 : Int) ≤ (J : Int) := by omega
                        have I1 : (I : Int) < (a.length : Int) + 1 := by omega
                        have J1 : (J : Int) < (b.length : Int) + 1 := by omega
                        obtain ⟨x1, d1, X1, X2⟩ := HP.out.cells HSH.out (x := I) (y := J) (by omega) (by omega)
                        obtain ⟨x2, d2, X3, X4⟩ := HP.out.cells HSH.out (x := i) (y := j) (by omega) (by omega)
                        have X1 := Lib.hid (fun W (k : Below w.heap.size w W) => (k.cell (lt_of_cell X1)).trans X1)
                        have X2 := Lib.hid (fun W (k : Below w.heap.size w W) => (k.cell (lt_of_cell X2)).trans X2)
                        have X3 := Lib.hid (fun W (k : Below w.heap.size w W) => (k.cell (lt_of_cell X3)).trans X3)
                        have X4 := Lib.hid (fun W (k : Below w.heap.size w W) => (k.cell (lt_of_cell X4)).trans X4)
                        clear eI eJ hop hd1 HC
                        generalize at2 ps I J = tv at *
                        generalize at2 ps i j = ti at *
                        go_wp2_with (first | (go_at_call 33; refine EDT.mono ?_; rintro e w' ⟨rfl, nd, rfl⟩; have HB4 := Lib.hid (bdn (n := nd) HBL.out); generalize wr.drewN nd = w4 at *))
                        have y1 := X1.out _ HB4.out
                        have y2 := X2.out _ HB4.out
                        have y3 := X3.out _ HB4.out
                        have y4 := X4.out _ HB4.out
                        have NR := Lib.hid (fun k => HN1.out (w4.drewN k) (bdn (n := k) HB4.out))
                        clear X1 X2 X3 X4 HN1
                        by_cases hle : tv ≤ ti + dC q
                        · have HC2 := Lib.hid (HSTP.out hle)
                          have NR := Lib.hid (fun k => (NR.out k).mono (R' := fun e w' => e = .returned (.bool true) ∧ w4.drewN k = w') (by rintro e w' ⟨h1, h2⟩; rw [decide_eq_true hle] at h1; exact ⟨h1, h2⟩))
                          clear HBAD HSTP hle
                          go_quiet ((go_at_call 35; exact Calls.quiet_of_same ((NR.out _).mono fun _ _ h => ⟨h.1, h.2.symm⟩)))
                          have HB5 := Lib.hid (bdn (n := nq) HB4.out)
                          clear NR y1 y2 y3 y4
                          generalize w4.drewN nq = w5 at *
                          go_wp2_with fail
                          go_roundw
                          case rel => exact ⟨q + 1, by omega, by go_num, HC2, HB5⟩
                          case measure => simp [intOf] <;> omega
                        · have HF := Lib.hid (HBAD.out (by omega))
                          have NR := Lib.hid (fun k => (NR.out k).mono (R' := fun e w' => e = .returned (.bool false) ∧ w4.drewN k = w') (by rintro e w' ⟨h1, h2⟩; rw [decide_eq_false (by omega)] at h1; exact ⟨h1, h2⟩))
                          clear HBAD HSTP hle
                          go_quiet ((go_at_call 35; exact Calls.quiet_of_same ((NR.out _).mono fun _ _ h => ⟨h.1, h.2.symm⟩)))
                          have HB5 := Lib.hid (bdn (n := nq) HB4.out)
                          clear NR y1 y2 y3 y4
                          generalize w4.drewN nq = w5 at *
                          go_wp2_with fail
                          go_ret
                          exact VerPost.no HF.out HB5.out
                      · have hf : okP a b i j q = false := by cases h : okP a b i j q <;> simp_all
                        rw [hf] at EDT
                        have HC2 := Lib.hid (show Chk a b ps i j (fun m => m < q + 1) from HC.out.step (n := q) (fun m _ h => by omega) (fun h => by rw [hf] at h; cases h))
                        clear HC hop
                        go_wp2_with (first | (go_at_call 33; refine EDT.mono ?_; rintro e w' ⟨rfl, nd, rfl⟩; have HB4 := Lib.hid (bdn (n := nd) HBL.out); generalize wr.drewN nd = w4 at *))
                        go_quiet (fail)
                        have HB5 := Lib.hid (bdn (n := nq) HB4.out)
                        generalize w4.drewN nq = w5 at *
                        go_wp2_with fail
                        go_roundw
                        case rel => exact ⟨q + 1, by omega, by go_num, HC2, HB5⟩
                        case measure => simp [intOf] <;> omega
                    · obtain rfl : q = 5 := by omega
                      have HC2 := Lib.hid (HC.out.next (fun m hm => okP_lt hm))
                      clear HC
                      go_wp2_with fail
                      go_roundw
                      case rel => exact ⟨j + 1, by omega, by go_num, HC2, HBL⟩
                      case measure => simp [intOf] <;> omega
                · obtain rfl : j = b.length + 1 := by omega
                  have j1 : ¬ ((b.length : Int) + 1) ≤ (b.length : Int) := by omega
                  have j2 : ¬ (((b.length + 1 : Nat) : Int)) ≤ (b.length : Int) := by omega
                  have HC2 := Lib.hid HC.out.row
                  clear HC
                  go_wp2_with fail
                  go_roundw
                  case rel => exact ⟨i + 1, by omega, by go_num, HC2, HBL⟩
                  case measure => simp [intOf] <;> omega
            · obtain rfl : i = a.length + 1 := by omega
              have i1 : ¬ ((a.length : Int) + 1) ≤ (a.length : Int) := by omega
              have i2 : ¬ (((a.length + 1 : Nat) : Int)) ≤ (a.length : Int) := by omega
              obtain ⟨x1, d1, X1, X2⟩ := HP.out.cells HSH.out (x := a.length) (y := b.length) (by omega) (by omega)
              have y1 := (HBL.out.cell (lt_of_cell X1)).trans X1
              have y2 := (HBL.out.cell (lt_of_cell X2)).trans X2
              have a1 : (a.length : Int) < (a.length : Int) + 1 := by omega
              have b1 : (b.length : Int) < (b.length : Int) + 1 := by omega
              clear X1 X2
              by_cases ht : cost ≤ at2 ps a.length b.length
              · have HV := Lib.hid (HC.out.ver HNL.out HSH.out HZ.out ht)
                have dt : decide (at2 ps a.length b.length ≥ cost) = true := decide_eq_true ht
                generalize at2 ps a.length b.length = tv at *
                go_wp2_with fail
                go_ret
                exact VerPost.yes HV.out HBL.out
              · have HF := Lib.hid (show ¬ Ver a b cost ps from fun h => ht h.top)
                generalize at2 ps a.length b.length = tv at *
                go_wp2_with fail
                go_ret
                exact VerPost.no HF.out HBL.out
        · have HF := Lib.hid (show ¬ Ver a b cost ps from fun h => hz h.z)
          have f1 : (at2 ps 0 0 == 0) = false := beq_eq_false_iff_ne.2 hz
          have f2 : (at2 ps 0 0 != 0) = true := by simp [bne, f1]
          go_wp2_with fail
          go_ret
          exact VerPost.no HF.out (Below.refl _ _)
  · have e1 : ((N : Int) == (a.length : Int) + 1) = false := beq_eq_false_iff_ne.2 (by omega)
    have e2 : ((N : Int) != (a.length : Int) + 1) = true := by simp [bne, e1]
    have HF := Lib.hid (show ¬ Ver a b cost ps from fun h => hn (by rw [HN.out]; exact h.shp.len))
    go_enter Tryd.func23, Tryd.ntmps23
    go_wp2_with (first | (go_at_call 31; refine HL.out.mono ?_; rintro e w' ⟨rfl, rfl⟩))
    go_ret
    exact VerPost.no HF.out (Below.refl _ _)
end Go.Proofs.YtbdiilkdajadcaaDoor
