/-
  Stage 8: the reference's Potential.
-/
import Derived.Test.YtbdiilkdajadcaaDoorRRtbl
import Derived.Test.YtbdiilkdajadcaaDoorRPotM
import Derived.Test.YtbdiilkdajadcaaDoorRRcos
import Derived.StillTailTactics
set_option linter.unusedSimpArgs false
set_option linter.unusedVariables false
namespace Go.Proofs.YtbdiilkdajadcaaDoor
open Go.RowKit

structure QSt (a b : List Int) (w : World) (g : Nat) (rb rc : Nat → Nat) (i j : Nat) (D : Nat → Prop) (wr : World) : Prop where
  bel : Below w.heap.size w wr
  tab : ∃ T, Tab IR 3 wr w.heap.size g (a.length + 1) (b.length + 1) (a.length + 1) rb rc T ∧ QInv a b i j D T
theorem QInv.congrD {a b : List Int} {i j : Nat} {D D' : Nat → Prop} {T : Nat → Nat → Int} (h : QInv a b i j D T) (hD : ∀ m, okP a b i j m = true → (D m ↔ D' m)) : QInv a b i j D' T :=
  h.more (fun x y n _ _ ho hd => by
    rcases hd with hd | hd | ⟨rfl, rfl, hd⟩
    · exact Or.inl hd
    · exact Or.inr (Or.inl hd)
    · exact Or.inr (Or.inr ⟨rfl, rfl, (hD n ho).2 hd⟩)) (fun x y n _ _ ho hd => by
    rcases hd with hd | hd | ⟨rfl, rfl, hd⟩
    · exact Or.inl hd
    · exact Or.inr (Or.inl hd)
    · exact Or.inr (Or.inr ⟨rfl, rfl, (hD n ho).1 hd⟩))
set_option maxRecDepth 100000 in
set_option maxHeartbeats 6400000 in
theorem rpot_any (a b : List Int) (A B : Option Addr) (ca cb : Nat) (w : World) (la : a.length ≤ 1000000000) (lb : b.length ≤ 1000000000) (ha : Row .i64 w w.heap.size A a) (hb : Row .i64 w w.heap.size B b) :
    Calls Tryd.prog 16 #[.slice A a.length ca, .slice B b.length cb] w (PotPost a b w) := by
  have HL := Lib.hid (rlong_any A B a.length ca b.length cb w la lb)
  by_cases hl : lngP a b
  · rw [decide_eq_true (show 96 < a.length ∨ 96 < b.length from hl)] at HL
    have HF := Lib.hid (show PotPost a b w (.returned (.tuple #[.slice none 0 0, .int .i64 3])) w from ⟨by rw [if_pos hl], Below.refl _ _⟩)
    clear hl
    go_enter Tryd.func16, Tryd.ntmps16
    go_wp2_with (first | (go_at_call 31; refine HL.out.mono ?_; rintro e w' ⟨rfl, rfl⟩))
    refine bodyPost_ret (results_tmp2R rfl _ _ _ _ rfl rfl) rfl ?_
    exact HF.out
  rw [decide_eq_false (show ¬ (96 < a.length ∨ 96 < b.length) from hl)] at HL
  have l1 : a.length ≤ 96 := by unfold lngP at hl; omega
  have l2 : b.length ≤ 96 := by unfold lngP at hl; omega
  have HNL := Lib.hid hl
  have HC := Lib.hid (rtbl_any A B a.length ca b.length cb w l1 l2)
  have HA := Lib.hid ha
  have HB := Lib.hid hb
  clear ha hb hl la lb
  go_enter Tryd.func16, Tryd.ntmps16
  go_wp2_with (first | (go_at_call 31; refine HL.out.mono ?_; rintro e w' ⟨rfl, rfl⟩))
  refine HC.out.mono ?_
  rintro e w1 ⟨⟨g, cg, rb, rc, rfl, hcg, T1⟩, B1⟩
  have t1 := T1.out 0 (by omega)
  have t2 := T1.cellI (i := 0) (j := 0) (by omega) (by omega)
  have f2 := T1.frozen (i := 0) (by omega) 0
  have i0 : (0 : Int) < (a.length : Int) + 1 := by omega
  have j0 : (0 : Int) < (b.length : Int) + 1 := by omega
  have HS0 := Lib.hid (show QSt a b w g rb rc 0 0 (fun _ => False) (w1.setCell ⟨rb 0, 0, none⟩ (.int .i64 0)) from
    ⟨B1.setCell (p := ⟨rb 0, 0, none⟩) (T1.rlt (i := 0) (by omega)).1 _, _, T1.setI (i := 0) (by omega) 0 0, QInv.start⟩)
  have HCG := Lib.hid hcg
  clear T1 B1 HC HL hcg
  go_wp2_with fail
  clear t1 t2 f2
  generalize w1.setCell ⟨rb 0, 0, none⟩ (.int .i64 0) = w2 at *
  go_loopw [7] (fun v wr => ∃ i : Nat, i ≤ a.length + 1 ∧ v = .int .i64 (i : Int) ∧ Hid (QSt a b w g rb rc i 0 (fun _ => False) wr)) (fun v _ => a.length + 1 - (intOf v).toNat)
  case atStart => exact ⟨0, by omega, rfl, HS0⟩
  case round =>
    clear HS0
    obtain ⟨i, hi, rfl, HS⟩ := hrel
    by_cases hlt : i ≤ a.length
    · have i1 : (i : Int) ≤ (a.length : Int) := by omega
      have i2 : (i : Int) < (a.length : Int) + 1 := by omega
      have i0' : (0 : Int) ≤ (i : Int) := by omega
      go_wp2_with fail
      generalize wr = wo at *
      go_loopw [8] (fun v wr => ∃ j : Nat, j ≤ b.length + 1 ∧ v = .int .i64 (j : Int) ∧ Hid (QSt a b w g rb rc i j (fun _ => False) wr)) (fun v _ => b.length + 1 - (intOf v).toNat)
      case atStart => exact ⟨0, by omega, rfl, HS⟩
      case round =>
        clear HS
        obtain ⟨j, hj, rfl, HS⟩ := hrel
        by_cases hltj : j ≤ b.length
        · have j1 : (j : Int) ≤ (b.length : Int) := by omega
          have j2 : (j : Int) < (b.length : Int) + 1 := by omega
          have j0' : (0 : Int) ≤ (j : Int) := by omega
          have HS1 := Lib.hid (show QSt a b w g rb rc i j (fun m => m < 0) wr from by
            obtain ⟨T, t1, t2⟩ := HS.out.tab
            exact ⟨HS.out.bel, T, t1, t2.congrD (fun m _ => ⟨fun h => h.elim, fun h => by omega⟩)⟩)
          clear HS
          go_wp2_with fail
          generalize wr = wp at *
          go_loopw [9] (fun v wr => ∃ k : Nat, k ≤ 5 ∧ v = .int .i64 (k : Int) ∧ Hid (QSt a b w g rb rc i j (fun m => m < k) wr)) (fun v _ => 5 - (intOf v).toNat)
          case atStart => exact ⟨0, by omega, rfl, HS1⟩
          case round =>
            clear HS1
            obtain ⟨k, hk, rfl, HS⟩ := hrel
            by_cases hltk : k < 5
            · have k1 : (k : Int) ≤ 4 := by omega
              have bWN : ∀ nd, Below wr.heap.size wr (wr.drewN nd) := fun nd => ⟨rfl, rfl, rfl, Nat.le_refl _, fun _ _ => rfl⟩
              have EDT := edt_any k hltk a b A B ca cb i j wr ((HA.out.under HS.out.bel).more HS.out.bel.size) ((HB.out.under HS.out.bel).more HS.out.bel.size) (by omega) (by omega) (by omega) (by omega)
              by_cases hop : okP a b i j k = true
              · rw [hop] at EDT
                have hin := okP_in hlt hltj hop
                obtain ⟨T, tab, inv⟩ := HS.out.tab
                have bI := inv.bd (i + dA k) (j + dB k) hin.2.1 hin.2.2.1
                have bi := inv.bd i j hlt hltj
                have HT := Lib.hid (fun nd => tab.below (bWN nd))
                have HINV := Lib.hid (show ∀ U, (U = if T (i + dA k) (j + dB k) < 0 ∨ T i j + dC k < T (i + dA k) (j + dB k) then upd T (i + dA k) (j + dB k) (T i j + dC k) else T) → QInv a b i j (fun m => m < k + 1) U from fun U hU => (inv.relax hlt hltj hop hU).congrD (fun m _ => ⟨fun h => by omega, fun h => by omega⟩))
                obtain ⟨h5, hiA, hjB, hd1, hc0, hc4, -⟩ := hin
                have w3 : IntKind.i64.wrap (T i j + dC k) = T i j + dC k := IntWalk.i64_in _ (by omega)
                obtain ⟨I, eI⟩ : ∃ I, I = i + dA k := ⟨_, rfl⟩
                obtain ⟨J, eJ⟩ : ∃ J, J = j + dB k := ⟨_, rfl⟩
                rw [← eI, ← eJ] at EDT HINV bI
                rw [← eI] at hiA
                rw [← eJ] at hjB
                have I0 : (0 : Int) ≤ (I : Int) := by omega
                have J0 : (0 : Int) ≤ (J : Int) := by omega
                have I1 : (I : Int) < (a.length : Int) + 1 := by omega
                have J1 : (J : Int) < (b.length : Int) + 1 := by omega
                have HRI := Lib.hid (tab.rlt (i := I) (by omega)).1
                have HBL := Lib.hid HS.out.bel
                have hIA : I < a.length + 1 := by omega
                have hJB : J < b.length + 1 := by omega
                have hIi : i < a.length + 1 := by omega
                have hJj : j < b.length + 1 := by omega
                clear eI eJ tab inv hop hd1
                go_wp2_with (first | (go_at_call 33; refine EDT.mono ?_; rintro e w' ⟨rfl, nd, rfl⟩; have HT4 := Lib.hid (HT.out nd); have HBL4 := Lib.hid (bdn (n := nd) HBL.out); have t1 := HT4.out.out I hIA; have t2 := HT4.out.cellI hIA hJB; have t3 := HT4.out.out i hIi; have t4 := HT4.out.cellI hIi hJj; generalize wr.drewN nd = w4 at *))
                have hcase : T I J < 0 ∨ (¬ T I J < 0 ∧ T i j + dC k < T I J) ∨ (¬ T I J < 0 ∧ ¬ T i j + dC k < T I J) := by omega
                rcases hcase with g1 | ⟨g1, g2⟩ | ⟨g1, g2⟩
                · have HS5 := Lib.hid (show ∀ W, Below w4.heap.size w4 W → QSt a b w g rb rc i j (fun m => m < k + 1) (W.setCell ⟨rb I, J, none⟩ (.int .i64 (T i j + dC k))) from fun W hW =>
                    ⟨(HBL4.out.trans (hW.mono HBL4.out.size)).setCell (p := ⟨rb I, J, none⟩) HRI.out _, _, (HT4.out.below hW).setI hIA J _, HINV.out _ (by rw [if_pos (Or.inl g1)])⟩)
                  have HFZ := Lib.hid (HT4.out.frozen hIA J)
                  clear HINV HT HT4 HRI HBL HBL4 HS
                  go_quiet (fail)
                  have t1 : (w4.drewN nq).cell? _ = _ := t1
                  have t2 : (w4.drewN nq).cell? _ = _ := t2
                  have t3 : (w4.drewN nq).cell? _ = _ := t3
                  have t4 : (w4.drewN nq).cell? _ = _ := t4
                  have HFZ : Hid ((w4.drewN nq).frozen? ⟨rb I, J, none⟩ = false) := HFZ
                  have HS5 := Lib.hid (HS5.out (w4.drewN nq).drew ⟨rfl, rfl, rfl, Nat.le_refl _, fun _ _ => rfl⟩)
                  generalize w4.drewN nq = w5 at *
                  go_wp2_with fail
                  go_still_tail 15, (by kernel_rfl)
                  change wpList _ _ _ _ _ w5.drew
                  have t2 : w5.drew.cell? _ = _ := t2
                  have f2 : w5.drew.frozen? _ = _ := HFZ.out
                  clear t1 t3 t4 w3
                  generalize w5.drew = w6 at *
                  go_wp2_with fail
                  go_roundw
                  case rel => exact ⟨k + 1, by omega, by go_num, HS5⟩
                  case measure => simp [intOf] <;> omega
                · have HS5 := Lib.hid (show ∀ W, Below w4.heap.size w4 W → QSt a b w g rb rc i j (fun m => m < k + 1) (W.setCell ⟨rb I, J, none⟩ (.int .i64 (T i j + dC k))) from fun W hW =>
                    ⟨(HBL4.out.trans (hW.mono HBL4.out.size)).setCell (p := ⟨rb I, J, none⟩) HRI.out _, _, (HT4.out.below hW).setI hIA J _, HINV.out _ (by rw [if_pos (Or.inr g2)])⟩)
                  have HFZ := Lib.hid (HT4.out.frozen hIA J)
                  have d1 : decide (T I J < 0) = false := decide_eq_false g1
                  clear HINV HT HT4 HRI HBL HBL4 HS
                  go_quiet (fail)
                  have t1 : (w4.drewN nq).cell? _ = _ := t1
                  have t2 : (w4.drewN nq).cell? _ = _ := t2
                  have t3 : (w4.drewN nq).cell? _ = _ := t3
                  have t4 : (w4.drewN nq).cell? _ = _ := t4
                  have HFZ : Hid ((w4.drewN nq).frozen? ⟨rb I, J, none⟩ = false) := HFZ
                  have HS5 := Lib.hid (HS5.out (w4.drewN nq).drew ⟨rfl, rfl, rfl, Nat.le_refl _, fun _ _ => rfl⟩)
                  generalize w4.drewN nq = w5 at *
                  go_wp2_with fail
                  go_still_tail 15, (by kernel_rfl)
                  change wpList _ _ _ _ _ w5.drew
                  have t2 : w5.drew.cell? _ = _ := t2
                  have f2 : w5.drew.frozen? _ = _ := HFZ.out
                  clear t1 t3 t4 w3
                  generalize w5.drew = w6 at *
                  go_wp2_with fail
                  go_roundw
                  case rel => exact ⟨k + 1, by omega, by go_num, HS5⟩
                  case measure => simp [intOf] <;> omega
                · have HS5 := Lib.hid (show ∀ W, Below w4.heap.size w4 W → QSt a b w g rb rc i j (fun m => m < k + 1) W from fun W hW =>
                    ⟨HBL4.out.trans (hW.mono HBL4.out.size), _, HT4.out.below hW, HINV.out _ (by rw [if_neg (by omega)])⟩)
                  have d1 : decide (T I J < 0) = false := decide_eq_false g1
                  clear HINV HT HT4 HRI HBL HBL4 HS
                  go_quiet (fail)
                  have HS5 := Lib.hid (HS5.out (w4.drewN nq) ⟨rfl, rfl, rfl, Nat.le_refl _, fun _ _ => rfl⟩)
                  clear t1 t2 t3 t4
                  generalize w4.drewN nq = w5 at *
                  go_wp2_with fail
                  go_roundw
                  case rel => exact ⟨k + 1, by omega, by go_num, HS5⟩
                  case measure => simp [intOf] <;> omega
              · have hf : okP a b i j k = false := by cases h : okP a b i j k <;> simp_all
                rw [hf] at EDT
                have HS2 := Lib.hid (show QSt a b w g rb rc i j (fun m => m < k + 1) wr from by
                  obtain ⟨T, t1, t2⟩ := HS.out.tab
                  exact ⟨HS.out.bel, T, t1, t2.congrD (fun m hm => ⟨fun h => by omega, fun h => by
                    by_cases e : m = k
                    · subst e; rw [hf] at hm; cases hm
                    · omega⟩)⟩)
                clear HS
                go_wp2_with (first | (go_at_call 33; refine EDT.mono ?_; rintro e w' ⟨rfl, nd, rfl⟩; have HS3 := Lib.hid (show QSt a b w g rb rc i j (fun m => m < k + 1) (wr.drewN nd) from by
                  obtain ⟨T, t1, t2⟩ := HS2.out.tab
                  exact ⟨bdn HS2.out.bel, T, t1.below (bWN nd), t2⟩); generalize wr.drewN nd = w4 at *))
                go_quiet (fail)
                have HS4 := Lib.hid (show QSt a b w g rb rc i j (fun m => m < k + 1) (w4.drewN nq) from by
                  obtain ⟨T, t1, t2⟩ := HS3.out.tab
                  exact ⟨bdn HS3.out.bel, T, t1.below ⟨rfl, rfl, rfl, Nat.le_refl _, fun _ _ => rfl⟩, t2⟩)
                generalize w4.drewN nq = w5 at *
                go_wp2_with fail
                go_roundw
                case rel => exact ⟨k + 1, by omega, by go_num, HS4⟩
                case measure => simp [intOf] <;> omega
            · obtain rfl : k = 5 := by omega
              have HS2 := Lib.hid (show QSt a b w g rb rc i (j + 1) (fun _ => False) wr from by
                obtain ⟨T, t1, t2⟩ := HS.out.tab
                exact ⟨HS.out.bel, T, t1, t2.next (fun m hm => okP_lt hm)⟩)
              clear HS
              go_wp2_with fail
              go_roundw
              case rel => exact ⟨j + 1, by omega, by go_num, HS2⟩
              case measure => simp [intOf] <;> omega
        · obtain rfl : j = b.length + 1 := by omega
          have j1 : ¬ ((b.length : Int) + 1) ≤ (b.length : Int) := by omega
          have j2 : ¬ (((b.length + 1 : Nat) : Int)) ≤ (b.length : Int) := by omega
          have HS2 := Lib.hid (show QSt a b w g rb rc (i + 1) 0 (fun _ => False) wr from by
            obtain ⟨T, t1, t2⟩ := HS.out.tab
            exact ⟨HS.out.bel, T, t1, t2.row⟩)
          clear HS
          go_wp2_with fail
          go_roundw
          case rel => exact ⟨i + 1, by omega, by go_num, HS2⟩
          case measure => simp [intOf] <;> omega
    · obtain rfl : i = a.length + 1 := by omega
      have i1 : ¬ ((a.length : Int) + 1) ≤ (a.length : Int) := by omega
      have i2 : ¬ (((a.length + 1 : Nat) : Int)) ≤ (a.length : Int) := by omega
      go_wp2_with fail
      obtain ⟨T, t1, t2⟩ := HS.out.tab
      refine bodyPost_ret (results_tmp2R rfl _ _ _ _ rfl rfl) rfl ?_
      refine ⟨?_, HS.out.bel⟩
      rw [if_neg HNL.out]
      exact ⟨_, _, rb, rc, T, rfl, HCG.out, t1, t2.isPot⟩
end Go.Proofs.YtbdiilkdajadcaaDoor
