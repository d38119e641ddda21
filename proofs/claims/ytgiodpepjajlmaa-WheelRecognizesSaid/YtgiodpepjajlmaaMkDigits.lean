/-
  The maker's Digits: a string of n digits.
-/
import Derived.Test.YtgiodpepjajlmaaByts
set_option linter.unusedSimpArgs false
set_option linter.unusedVariables false
namespace Go.Proofs.Ytgiodpepjajlmaa
open Go.RowKit

theorem infoByte : (Try.prog.info? 5).map (fun i => (i.zero, i.size, i.bytes)) = some (some (.int .u8 0), 1, 1) := by kernel_rfl
theorem make_bytes (w : World) (n : Nat) (hn : n ≤ 1000000) : (Instr.makeSlice 70 (.int .i64 n) (.int .i64 n)).run Try.prog w = .ok (.slice (some ⟨w.heap.size, 0, none⟩) n n) (w.alloc (.cells (madeCells #[.int .u8 0] n) 5)) := by
  obtain ⟨i0, hi, hz0, hz1, hz2⟩ := info_parts infoByte
  have h := run_make (P := Try.prog) w 70 5 i0 (.int .u8 0) Try.underlying70 hi hz0 .i64 .i64 (n : Int) (n : Int) (by omega) (Int.le_refl _) (by rw [hz2]; omega) (by omega)
  rw [hz1] at h
  simpa [Value.cells] using h

/-- What Digits and its like leave: a string of which P holds. -/
def StrPost (m N : Nat) (P : ByteArray → Prop) (w : World) (e : Ending) (w' : World) : Prop := ∃ s : ByteArray, e = .returned (.string s) ∧ P s ∧ IsMk w' m N ∧ Moves m w w'

set_option maxHeartbeats 800000 in
theorem mdigits_any (m N n : Nat) (w : World) (h : IsMk w m N) (hN : N ≤ 100000000000) (hn : n ≤ 1000) :
    Calls Try.prog 50 #[.pointer (some ⟨m, 0, none⟩), .int .i64 n] w (StrPost m (N + n) (fun s => dgs s n = true) w) := by
  have hm := h.lt
  have hmk := fun w => make_bytes w n (by omega)
  go_enter Try.func50, Try.ntmps50
  go_wp2_with fail
  go_loopw [6] (fun i wr => ∃ (k : Nat) (xs : List Int), k ≤ n ∧ i = .int .i64 k ∧ xs.length = n ∧ (∀ j, j < k → 48 ≤ xs.getD j 0 ∧ xs.getD j 0 ≤ 57) ∧ IsMk wr m (N + k) ∧ Moves m w wr ∧ Byts wr w.heap.size xs) (fun i _ => n - (intOf i).toNat)
  case atStart => exact ⟨0, List.replicate n 0, by omega, rfl, by simp, fun j hj => by omega, h.alloc _, (Moves.refl m w).alloc _, Byts.made _ rfl⟩
  case round =>
    obtain ⟨k, xs, hk, rfl, hxs, hd, M, V, B⟩ := hrel
    have HD := Lib.hid hd
    have HX := Lib.hid hxs
    clear hd hxs
    by_cases hlt : k < n
    · go_wp2_with fail
      refine (next_any m (N + k) _ _ M (by omega) (by omega) (by omega)).mono ?_
      rintro e w1 ⟨v, rfl, v1, v2, k1, k2⟩
      have B1 := B.moves k2 (by omega)
      have V1 := V.trans k2
      have hb : w.heap.size < w1.heap.size := B1.lt
      have c0 := B1.cs k (by have := HX.out; omega)
      have f0 := B1.fs k (by have := HX.out; omega)
      generalize xs.getD k 0 = old at *
      clear B V M k2
      go_wp2_with fail
      go_roundw
      case rel =>
        refine ⟨k + 1, xs.set k (48 + v), by omega, by go_num, by rw [List.length_set]; exact HX.out, fun j hj => ?_, k1.setCell (by simp; omega) _, Moves.setCell (m := m) V1 (Or.inr (Nat.le_refl _)) _, B1.store k (by have := HX.out; omega) _⟩
        rw [getD_set _ _ _ _ (by have := HX.out; omega)]
        split
        · omega
        · exact HD.out j (by omega)
      case measure => simp [intOf]; omega
    · obtain rfl : n = k := by omega
      have hc := fun (cap : Nat) => B.str (P := Try.prog) (cap := cap) 70 5 9 Try.underlying70 Try.underlying5 Try.underlying9
      have hd := dgs_strOfNums (xs := xs) (fun j hj => HD.out j (by have := HX.out; omega))
      rw [HX.out] at hc hd
      clear B
      go_wp2_with fail
      go_ret
      exact ⟨_, rfl, hd, M, V⟩

end Go.Proofs.Ytgiodpepjajlmaa
