/-
  Stage 8: the program's tooLong, newTable.
-/
import Derived.Test.YtbdiilkdajadcaaDoorRTab
import Derived.Test.YtbdiilkdajadcaaDoorRMath
import Derived.IntWalk
set_option linter.unusedSimpArgs false
set_option linter.unusedVariables false
namespace Go.Proofs.YtbdiilkdajadcaaDoor
open Go.RowKit

theorem heap_newR (w : World) (o : Obj) : (w.alloc o).heap[w.heap.size]? = some o := by
  show (w.heap.push _)[w.heap.size]? = _
  rw [Array.getElem?_push, if_pos rfl]
theorem ROwn.laid {α : Type} (R : Rec α) {T : TypeId} (w : World) (base : Nat) (hb : base ≤ w.heap.size) (l : List α) (n : Nat) (hn : l.length = n) (hm : n ≤ 1000) : ROwn R T (w.alloc (.cells (R.flat l).toArray T)) base (.slice (some ⟨w.heap.size, 0, none⟩) n n) l := by
  subst hn
  have hl : (R.flat l).length = l.length * R.m := flatR_len R l
  refine ⟨hl, Or.inr ⟨w.heap.size, l.length, (R.flat l).toArray, rfl, hb, heap_newR w _, Nat.le_refl _, by unfold maxLen; omega, by rw [List.size_toArray]; exact hl, ?_⟩⟩
  show List.take (l.length * R.m) (R.flat l) = R.flat l
  exact List.take_of_length_le (by omega)
theorem RR_zeros (M : Nat) : RR.flat (rowL (fun _ => ((0 : Int), (0 : Int))) M) = List.replicate (M * 2) (.int .i64 0) := by
  unfold rowL
  rw [List.map_const', List.length_range]
  induction M with
  | zero => rfl
  | succ M ih =>
    show [Value.int .i64 0, .int .i64 0] ++ RR.flat (List.replicate M (0, 0)) = List.replicate ((M + 1) * 2) _
    rw [ih, show (M + 1) * 2 = M * 2 + 1 + 1 by omega]; rfl
theorem IR_zeros (M : Nat) (z : Int) : IR.flat (rowL (fun _ => z) M) = List.replicate M (.int .i64 z) := by
  unfold rowL
  rw [IR_flat, List.map_const', List.length_range, List.map_replicate]
theorem infoLR : (Tryd.prog.info? 52).map (fun i => (i.zero, i.size, i.bytes)) = some (some (.slice none 0 0), 1, 24) := by kernel_rfl
theorem infoLI : (Tryd.prog.info? 22).map (fun i => (i.zero, i.size, i.bytes)) = some (some (.slice none 0 0), 1, 24) := by kernel_rfl
theorem infoRest : (Tryd.prog.info? 50).map (fun i => (i.zero, i.size, i.bytes)) = some (some (.agg #[.int .i64 0, .int .i64 0]), 2, 16) := by kernel_rfl
theorem infoInt : (Tryd.prog.info? 3).map (fun i => (i.zero, i.size, i.bytes)) = some (some (.int .i64 0), 1, 8) := by kernel_rfl
abbrev nilsO (X : Nat) (T : TypeId) : Obj := .cells (List.replicate X (Value.slice none 0 0)).toArray T
theorem make_outR (w : World) (X : Nat) (hX : X ≤ 1000) : (Instr.makeSlice 47 (.int .i64 (X : Int)) (.int .i64 (X : Int))).run Tryd.prog w = .ok (.slice (some ⟨w.heap.size, 0, none⟩) X X) (w.alloc (nilsO X 52)) := by
  obtain ⟨i0, hi, hz0, hz1, hz2⟩ := info_parts infoLR
  have h := run_make (P := Tryd.prog) w 47 52 i0 (.slice none 0 0) Tryd.underlying47 hi hz0 .i64 .i64 (X : Int) (X : Int) (by omega) (Int.le_refl _) (by rw [hz2]; omega) (by omega)
  rw [hz1, Int.toNat_natCast, Nat.mul_one, show (Value.slice none 0 0).cells = #[.slice none 0 0] from rfl, made_one] at h
  exact h
theorem make_outI (w : World) (X : Nat) (hX : X ≤ 1000) : (Instr.makeSlice 26 (.int .i64 (X : Int)) (.int .i64 (X : Int))).run Tryd.prog w = .ok (.slice (some ⟨w.heap.size, 0, none⟩) X X) (w.alloc (nilsO X 22)) := by
  obtain ⟨i0, hi, hz0, hz1, hz2⟩ := info_parts infoLI
  have h := run_make (P := Tryd.prog) w 26 22 i0 (.slice none 0 0) Tryd.underlying26 hi hz0 .i64 .i64 (X : Int) (X : Int) (by omega) (Int.le_refl _) (by rw [hz2]; omega) (by omega)
  rw [hz1, Int.toNat_natCast, Nat.mul_one, show (Value.slice none 0 0).cells = #[.slice none 0 0] from rfl, made_one] at h
  exact h
theorem make_rowR (w : World) (X : Nat) (hX : X ≤ 1000) : (Instr.makeSlice 52 (.int .i64 (X : Int)) (.int .i64 (X : Int))).run Tryd.prog w = .ok (.slice (some ⟨w.heap.size, 0, none⟩) X X) (w.alloc (.cells (RR.flat (rowL (fun _ => ((0 : Int), (0 : Int))) X)).toArray 50)) := by
  obtain ⟨i0, hi, hz0, hz1, hz2⟩ := info_parts infoRest
  have h := run_make (P := Tryd.prog) w 52 50 i0 (.agg #[.int .i64 0, .int .i64 0]) Tryd.underlying52 hi hz0 .i64 .i64 (X : Int) (X : Int) (by omega) (Int.le_refl _) (by rw [hz2]; omega) (by omega)
  rw [hz1, Int.toNat_natCast, show (Value.agg #[.int .i64 0, .int .i64 0]).cells = #[.int .i64 0, .int .i64 0] from rfl, made_two, ← RR_zeros] at h
  exact h
theorem make_rowI (w : World) (X : Nat) (hX : X ≤ 1000) : (Instr.makeSlice 22 (.int .i64 (X : Int)) (.int .i64 (X : Int))).run Tryd.prog w = .ok (.slice (some ⟨w.heap.size, 0, none⟩) X X) (w.alloc (.cells (IR.flat (rowL (fun _ => (0 : Int)) X)).toArray 3)) := by
  obtain ⟨i0, hi, hz0, hz1, hz2⟩ := info_parts infoInt
  have h := run_make (P := Tryd.prog) w 22 3 i0 (.int .i64 0) Tryd.underlying22 hi hz0 .i64 .i64 (X : Int) (X : Int) (by omega) (Int.le_refl _) (by rw [hz2]; omega) (by omega)
  rw [hz1, Int.toNat_natCast, Nat.mul_one, show (Value.int .i64 0).cells = #[.int .i64 0] from rfl, made_one, ← IR_zeros] at h
  exact h
/-- A table of which no row is laid. -/
theorem Tab.start {α : Type} {R : Rec α} {e T : TypeId} (w : World) (L M : Nat) (rb rc : Nat → Nat) (U : Nat → Nat → α) : Tab R e (w.alloc (nilsO L T)) w.heap.size w.heap.size L M 0 rb rc U := by
  have h := heap_newR w (nilsO L T)
  refine ⟨by simp, Nat.le_refl _, fun j => by unfold World.frozen?; rw [h]; rfl, fun i hi => absurd hi (Nat.not_lt_zero i), fun i _ hi => by rw [cell_new]; simp [hi], fun i hi => absurd hi (Nat.not_lt_zero i), fun i hi => absurd hi (Nat.not_lt_zero i), fun i j hi => absurd hi (Nat.not_lt_zero i)⟩
theorem long_any (A B : Option Addr) (la ca lb cb : Nat) (w : World) (ha : la ≤ 1000000000) (hb : lb ≤ 1000000000) :
    Calls Tryd.prog 24 #[.slice A la ca, .slice B lb cb] w fun e w' => e = .returned (.bool (decide (96 < la ∨ 96 < lb))) ∧ w = w' := by
  by_cases h1 : 96 < la
  · have e1 : decide (96 < la ∨ 96 < lb) = true := decide_eq_true (Or.inl h1)
    rw [e1]
    have g1 : (96 : Int) < (la : Int) := by omega
    go_enter Tryd.func24, Tryd.ntmps24
    go_wp2_with fail
    go_ret
    exact ⟨rfl, rfl⟩
  · have g1 : ¬ (96 : Int) < (la : Int) := by omega
    by_cases h2 : 96 < lb
    · have e1 : decide (96 < la ∨ 96 < lb) = true := decide_eq_true (Or.inr h2)
      rw [e1]
      have g2 : (96 : Int) < (lb : Int) := by omega
      go_enter Tryd.func24, Tryd.ntmps24
      go_wp2_with fail
      go_ret
      exact ⟨by simp [g2], rfl⟩
    · have e1 : decide (96 < la ∨ 96 < lb) = false := decide_eq_false (by omega)
      rw [e1]
      have g2 : ¬ (96 : Int) < (lb : Int) := by omega
      go_enter Tryd.func24, Tryd.ntmps24
      go_wp2_with fail
      go_ret
      exact ⟨by simp [g2], rfl⟩
set_option maxHeartbeats 1600000 in
theorem newR_any (A B : Option Addr) (la ca lb cb : Nat) (w : World) (ha : la ≤ 96) (hb : lb ≤ 96) :
    Calls Tryd.prog 25 #[.slice A la ca, .slice B lb cb] w fun e w' => e = .returned (.slice (some ⟨w.heap.size, 0, none⟩) (la + 1) (la + 1)) ∧ (∃ rb rc, Tab RR 50 w' w.heap.size w.heap.size (la + 1) (lb + 1) (la + 1) rb rc (fun _ _ => ((0 : Int), (0 : Int)))) ∧ Below w.heap.size w w' := by
  have mo := make_outR w (la + 1) (by omega)
  have mr := fun W => make_rowR W (lb + 1) (by omega)
  have T0 := Lib.hid (Tab.start (R := RR) (e := 50) (T := 52) w (la + 1) (lb + 1) (fun _ => 0) (fun _ => 0) (fun _ _ => ((0 : Int), (0 : Int))))
  have B0 := Lib.hid ((Below.refl _ w).alloc (Nat.le_refl _) (nilsO (la + 1) 52))
  rw [show ((la + 1 : Nat) : Int) = (la : Int) + 1 by omega] at mo
  simp only [show ((lb + 1 : Nat) : Int) = (lb : Int) + 1 by omega] at mr
  go_enter Tryd.func25, Tryd.ntmps25
  go_wp2_with fail
  go_loopw [13] (fun i wr => ∃ k : Nat, k ≤ (la + 1) ∧ i = .int .i64 (k : Int) ∧ Hid (∃ rb rc, Tab RR 50 wr w.heap.size w.heap.size (la + 1) (lb + 1) k rb rc (fun _ _ => ((0 : Int), (0 : Int)))) ∧ Hid (Below w.heap.size w wr)) (fun i _ => (la + 1) - (intOf i).toNat)
  case atStart => exact ⟨0, by omega, rfl, Lib.hid ⟨_, _, T0.out⟩, B0⟩
  case round =>
    clear mo T0 B0
    obtain ⟨k, hk, rfl, T, B⟩ := hrel
    by_cases hlt : k < (la + 1)
    · obtain ⟨rb, rc, TT⟩ := T.out
      have fz := ((TT.below ((Below.refl _ wr).alloc (Nat.le_refl _) (.cells (RR.flat (rowL (fun _ => ((0 : Int), (0 : Int))) (lb + 1))).toArray 50)))).fz k
      have cn := ((TT.below ((Below.refl _ wr).alloc (Nat.le_refl _) (.cells (RR.flat (rowL (fun _ => ((0 : Int), (0 : Int))) (lb + 1))).toArray 50)))).nil k (Nat.le_refl _) hlt
      have mr := mr wr
      have P2 := Lib.hid ((TT.below ((Below.refl _ wr).alloc (Nat.le_refl _) (.cells (RR.flat (rowL (fun _ => ((0 : Int), (0 : Int))) (lb + 1))).toArray 50))).put hlt (b := wr.heap.size) (c := lb + 1) (v := fun _ => ((0 : Int), (0 : Int))) (fun e => by have := TT.glt; omega) (fun i hi e => by have := (TT.rlt hi).2; omega)
        (ROwn.laid RR wr w.heap.size B.out.size (rowL (fun _ => ((0 : Int), (0 : Int))) (lb + 1)) (lb + 1) (rowL_len _ _) (by omega)))
      have B2 := Lib.hid ((B.out.alloc B.out.size (.cells (RR.flat (rowL (fun _ => ((0 : Int), (0 : Int))) (lb + 1))).toArray 50)).setCell (p := ⟨w.heap.size, k, none⟩) (Nat.le_refl _) (.slice (some ⟨wr.heap.size, 0, none⟩) (lb + 1) (lb + 1)))
      clear T TT B
      go_wp2_with fail
      go_roundw
      case rel => exact ⟨k + 1, by omega, by go_num, Lib.hid ⟨_, _, P2.out.congr (fun i j _ _ => by simp only [ite_self])⟩, B2⟩
      case measure => simp [intOf] <;> omega
    · obtain rfl : k = la + 1 := by omega
      go_wp2_with fail
      go_ret
      exact ⟨rfl, T.out, B.out⟩
set_option maxHeartbeats 1600000 in
theorem newI_any (A B : Option Addr) (la ca lb cb : Nat) (w : World) (ha : la ≤ 96) (hb : lb ≤ 96) :
    Calls Tryd.prog 36 #[.slice A la ca, .slice B lb cb] w fun e w' => e = .returned (.slice (some ⟨w.heap.size, 0, none⟩) (la + 1) (la + 1)) ∧ (∃ rb rc, Tab IR 3 w' w.heap.size w.heap.size (la + 1) (lb + 1) (la + 1) rb rc (fun _ _ => (0 : Int))) ∧ Below w.heap.size w w' := by
  have mo := make_outI w (la + 1) (by omega)
  have mr := fun W => make_rowI W (lb + 1) (by omega)
  have T0 := Lib.hid (Tab.start (R := IR) (e := 3) (T := 22) w (la + 1) (lb + 1) (fun _ => 0) (fun _ => 0) (fun _ _ => (0 : Int)))
  have B0 := Lib.hid ((Below.refl _ w).alloc (Nat.le_refl _) (nilsO (la + 1) 22))
  rw [show ((la + 1 : Nat) : Int) = (la : Int) + 1 by omega] at mo
  simp only [show ((lb + 1 : Nat) : Int) = (lb : Int) + 1 by omega] at mr
  go_enter Tryd.func36, Tryd.ntmps36
  go_wp2_with fail
  go_loopw [13] (fun i wr => ∃ k : Nat, k ≤ (la + 1) ∧ i = .int .i64 (k : Int) ∧ Hid (∃ rb rc, Tab IR 3 wr w.heap.size w.heap.size (la + 1) (lb + 1) k rb rc (fun _ _ => (0 : Int))) ∧ Hid (Below w.heap.size w wr)) (fun i _ => (la + 1) - (intOf i).toNat)
  case atStart => exact ⟨0, by omega, rfl, Lib.hid ⟨_, _, T0.out⟩, B0⟩
  case round =>
    clear mo T0 B0
    obtain ⟨k, hk, rfl, T, B⟩ := hrel
    by_cases hlt : k < (la + 1)
    · obtain ⟨rb, rc, TT⟩ := T.out
      have fz := ((TT.below ((Below.refl _ wr).alloc (Nat.le_refl _) (.cells (IR.flat (rowL (fun _ => (0 : Int)) (lb + 1))).toArray 3)))).fz k
      have cn := ((TT.below ((Below.refl _ wr).alloc (Nat.le_refl _) (.cells (IR.flat (rowL (fun _ => (0 : Int)) (lb + 1))).toArray 3)))).nil k (Nat.le_refl _) hlt
      have mr := mr wr
      have P2 := Lib.hid ((TT.below ((Below.refl _ wr).alloc (Nat.le_refl _) (.cells (IR.flat (rowL (fun _ => (0 : Int)) (lb + 1))).toArray 3))).put hlt (b := wr.heap.size) (c := lb + 1) (v := fun _ => (0 : Int)) (fun e => by have := TT.glt; omega) (fun i hi e => by have := (TT.rlt hi).2; omega)
        (ROwn.laid IR wr w.heap.size B.out.size (rowL (fun _ => (0 : Int)) (lb + 1)) (lb + 1) (rowL_len _ _) (by omega)))
      have B2 := Lib.hid ((B.out.alloc B.out.size (.cells (IR.flat (rowL (fun _ => (0 : Int)) (lb + 1))).toArray 3)).setCell (p := ⟨w.heap.size, k, none⟩) (Nat.le_refl _) (.slice (some ⟨wr.heap.size, 0, none⟩) (lb + 1) (lb + 1)))
      clear T TT B
      go_wp2_with fail
      go_roundw
      case rel => exact ⟨k + 1, by omega, by go_num, Lib.hid ⟨_, _, P2.out.congr (fun i j _ _ => by simp only [ite_self])⟩, B2⟩
      case measure => simp [intOf] <;> omega
    · obtain rfl : k = la + 1 := by omega
      go_wp2_with fail
      go_ret
      exact ⟨rfl, T.out, B.out⟩
end Go.Proofs.YtbdiilkdajadcaaDoor
