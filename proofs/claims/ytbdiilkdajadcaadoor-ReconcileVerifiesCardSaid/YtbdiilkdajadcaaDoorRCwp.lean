/-
  Stage 8: the program's costsWithoutPairs.
-/
import Derived.Test.YtbdiilkdajadcaaDoorRAli
import Derived.Test.YtbdiilkdajadcaaDoorRPotM
import Derived.StillTailTactics
set_option linter.unusedSimpArgs false
set_option linter.unusedVariables false
namespace Go.Proofs.YtbdiilkdajadcaaDoor
open Go.RowKit

abbrev c44 (x y : Nat) : Int := 4 * (x : Int) + 4 * (y : Int)
def UC (k m : Nat) : Nat → Nat → Int := fun x y => if x < k ∨ (x = k ∧ y < m) then c44 x y else 0
theorem UC_step {i j x y : Nat} : upd (UC i j) i j (c44 i j) x y = UC i (j + 1) x y := by
  by_cases h : x = i ∧ y = j
  · obtain ⟨rfl, rfl⟩ := h
    rw [upd_same]; unfold UC; rw [if_pos (by omega)]
  · rw [upd_other _ _ h]
    unfold UC
    by_cases g : x < i ∨ (x = i ∧ y < j)
    · rw [if_pos g, if_pos (by omega)]
    · rw [if_neg g, if_neg (by omega)]
theorem UC_row {i M x y : Nat} (hy : y < M) : UC i M x y = UC (i + 1) 0 x y := by
  unfold UC
  by_cases g : x < i ∨ (x = i ∧ y < M)
  · rw [if_pos g, if_pos (by omega)]
  · rw [if_neg g, if_neg (by omega)]
set_option maxRecDepth 100000 in
set_option maxHeartbeats 6400000 in
theorem cwp_any (A B : Option Addr) (la ca lb cb : Nat) (w : World) (hK : Knd w) (l1 : la ≤ 96) (l2 : lb ≤ 96) :
    Calls Tryd.prog 27 #[.slice A la ca, .slice B lb cb] w fun e w' => e = .returned (.slice (some ⟨w.heap.size, 0, none⟩) (la + 1) (la + 1)) ∧ (∃ rb rc, Tab IR 3 w' w.heap.size w.heap.size (la + 1) (lb + 1) (la + 1) rb rc (fun x y => c44 x y)) ∧ Below w.heap.size w w' := by
  have HN := Lib.hid (newI_any A B la ca lb cb w l1 l2)
  have HK := Lib.hid hK
  clear hK
  go_enter Tryd.func27, Tryd.ntmps27
  go_wp2_with fail
  refine HN.out.mono ?_
  rintro e w1 ⟨rfl, ⟨rb, rc, T1⟩, B1⟩
  have HT1 := Lib.hid (T1.congr (U := UC 0 0) (fun x y _ _ => by unfold UC; rw [if_neg (by omega)]))
  have HB1 := Lib.hid B1
  clear T1 B1 HN
  go_wp2_with fail
  go_loopw [13] (fun v wr => ∃ i : Nat, i ≤ la + 1 ∧ v = .int .i64 (i : Int) ∧ Hid (Tab IR 3 wr w.heap.size w.heap.size (la + 1) (lb + 1) (la + 1) rb rc (UC i 0)) ∧ Hid (Below w.heap.size w wr)) (fun v _ => la + 1 - (intOf v).toNat)
  case atStart => exact ⟨0, by omega, rfl, HT1, HB1⟩
  case round =>
    clear HT1 HB1
    obtain ⟨i, hi, rfl, HT, HB⟩ := hrel
    by_cases hlt : i < la + 1
    · have oc := HT.out.out i hlt
      have i1 : (i : Int) < (la : Int) + 1 := by omega
      have i0 : (0 : Int) ≤ (i : Int) := by omega
      go_wp2_with fail
      clear oc
      generalize wr = wo at *
      go_loopw [21] (fun v wr => ∃ j : Nat, j ≤ lb + 1 ∧ v = .int .i64 (j : Int) ∧ Hid (Tab IR 3 wr w.heap.size w.heap.size (la + 1) (lb + 1) (la + 1) rb rc (UC i j)) ∧ Hid (Below w.heap.size w wr)) (fun v _ => lb + 1 - (intOf v).toNat)
      case atStart => exact ⟨0, by omega, rfl, HT, HB⟩
      case round =>
        clear HT HB
        obtain ⟨j, hj, rfl, HT, HB⟩ := hrel
        by_cases hltj : j < lb + 1
        · have oc := HT.out.out i hlt
          have cj := HT.out.cellI (i := i) (j := j) hlt hltj
          have fz := HT.out.frozen (i := i) hlt j
          have k2 := (HK.out.below HB.out HK.out.lt).cs 8 (by decide)
          have k3 := (HK.out.below HB.out HK.out.lt).cs 11 (by decide)
          simp only [kdL, List.getD_cons_zero, List.getD_cons_succ] at k2 k3
          have j1 : (j : Int) < (lb : Int) + 1 := by omega
          have j0 : (0 : Int) ≤ (j : Int) := by omega
          have m1 : IntKind.i64.wrap ((i : Int) * 4) = (i : Int) * 4 := IntWalk.i64_in _ (by omega)
          have m2 : IntKind.i64.wrap ((j : Int) * 4) = (j : Int) * 4 := IntWalk.i64_in _ (by omega)
          have m3 : IntKind.i64.wrap ((i : Int) * 4 + (j : Int) * 4) = (i : Int) * 4 + (j : Int) * 4 := IntWalk.i64_in _ (by omega)
          have HT2 := Lib.hid ((HT.out.below (w' := wr.drew) ⟨rfl, rfl, rfl, Nat.le_refl _, fun _ _ => rfl⟩).setI (i := i) hlt j ((i : Int) * 4 + (j : Int) * 4))
          have HT3 := Lib.hid (HT2.out.congr (U := UC i (j + 1)) (fun x y _ _ => by rw [← UC_step, show c44 i j = (i : Int) * 4 + (j : Int) * 4 by unfold c44; omega]))
          have HB3 := Lib.hid ((bdn (n := 1) HB.out).setCell (p := ⟨rb i, j, none⟩) (HT.out.rlt (i := i) hlt).1 (.int .i64 ((i : Int) * 4 + (j : Int) * 4)))
          have HT3 : Hid (Tab IR 3 (wr.drew.setCell ⟨rb i, j, none⟩ (.int .i64 ((i : Int) * 4 + (j : Int) * 4))) w.heap.size w.heap.size (la + 1) (lb + 1) (la + 1) rb rc (UC i (j + 1))) := HT3
          have HB3 : Hid (Below w.heap.size w (wr.drew.setCell ⟨rb i, j, none⟩ (.int .i64 ((i : Int) * 4 + (j : Int) * 4)))) := HB3
          clear HT2 HT HB
          go_wp2_with fail
          go_still_tail 17, (by kernel_rfl)
          change wpList _ _ _ _ _ wr.drew
          have cj : wr.drew.cell? ⟨rb i, j, none⟩ = some (.int .i64 (UC i j i j)) := cj
          have fz : wr.drew.frozen? ⟨rb i, j, none⟩ = false := fz
          clear k2 k3 oc m1 m2 m3
          generalize wr.drew = w4 at *
          go_wp2_with fail
          go_roundw
          case rel => exact ⟨j + 1, by omega, by go_num, HT3, HB3⟩
          case measure => simp [intOf] <;> omega
        · obtain rfl : j = lb + 1 := by omega
          have HT3 := Lib.hid (HT.out.congr (U := UC (i + 1) 0) (fun x y _ hy => UC_row hy))
          clear HT
          go_wp2_with fail
          go_roundw
          case rel => exact ⟨i + 1, by omega, by go_num, HT3, HB⟩
          case measure => simp [intOf] <;> omega
    · obtain rfl : i = la + 1 := by omega
      go_wp2_with fail
      go_ret
      exact ⟨rfl, ⟨rb, rc, HT.out.congr (fun x y hx hy => by unfold UC; rw [if_pos (by omega)])⟩, HB.out⟩
end Go.Proofs.YtbdiilkdajadcaaDoor
