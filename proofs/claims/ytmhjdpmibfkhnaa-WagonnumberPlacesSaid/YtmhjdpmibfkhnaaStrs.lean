/-
  Stage 2: the maker's Strings: two lists of strings compared; the law's sanity check.
-/
import Derived.Test.YtmhjdpmibfkhnaaREq
import Derived.Test.YtmhjdpmibfkhnaaPParse
set_option linter.unusedSimpArgs false
set_option linter.unusedVariables false
namespace Go.Proofs.Ytmhjdpmibfkhnaa
open Go.RowKit

theorem Strs.len {w : World} {base : Nat} {v : Value} {l : List ByteArray} (h : Strs w base v l) : ∃ a cap, v = .slice a l.length cap := by
  obtain ⟨_, ⟨rfl, h⟩ | ⟨g, cap, cur, rfl, _⟩⟩ := h
  · exact ⟨none, 0, by rw [h]⟩
  · exact ⟨_, _, rfl⟩

set_option maxHeartbeats 400000 in
theorem strings_nil (a b : Option Addr) (c d : Nat) (w : World) : Calls Try.prog 28 #[.slice a 0 c, .slice b 0 d] w fun e w' => e = .returned (.bool true) ∧ ∃ n, w' = w.drewN n := by
  go_enter Try.func28, Try.ntmps28
  go_wp2_with fail
  go_loop [5] (fun i => i = .int .i64 0) (fun i => 0)
  case atStart => rfl
  case round =>
    obtain rfl := hrel
    go_wp2
    go_ret
    exact ⟨rfl, 0, rfl⟩

set_option maxHeartbeats 400000 in
theorem strings_full (l : List ByteArray) (g g' c c' base base' : Nat) (w : World) (h : Strs w base (.slice (some ⟨g, 0, none⟩) l.length c) l) (h' : Strs w base' (.slice (some ⟨g', 0, none⟩) l.length c') l) (hl : l.length ≤ 1000) :
    Calls Try.prog 28 #[.slice (some ⟨g, 0, none⟩) l.length c, .slice (some ⟨g', 0, none⟩) l.length c'] w fun e w' => e = .returned (.bool true) ∧ ∃ n, w' = w.drewN n := by
  have H := Lib.hid h
  have H' := Lib.hid h'
  clear h h'
  go_enter Try.func28, Try.ntmps28
  go_wp2_with fail
  go_loopw [5] (fun i wr => ∃ k n : Nat, k ≤ l.length ∧ i = .int .i64 k ∧ wr = w.drewN n) (fun i _ => l.length - (intOf i).toNat)
  case atStart => exact ⟨0, 0, by omega, rfl, rfl⟩
  case round =>
    obtain ⟨k, n, hk, rfl, rfl⟩ := hrel
    by_cases hlt : k < l.length
    · have hc : w.cell? ⟨g, k, none⟩ = some (.string l[k]) := by rw [H.out.cellAt k (by omega)]; simp [hlt]
      have hc' : w.cell? ⟨g', k, none⟩ = some (.string l[k]) := by rw [H'.out.cellAt k (by omega)]; simp [hlt]
      have q0 : (0 : Int) ≤ (k : Int) := by omega
      have q1 : (k : Int) < (l.length : Int) := by omega
      generalize l[k] = x at *
      go_wp2_with fail
      go_quiet (fail)
      go_wp2_with fail
      exact ⟨⟨k + 1, _, by omega, by go_num, rfl⟩, by simp [intOf]; omega⟩
    · obtain rfl : k = l.length := by omega
      go_wp2
      go_ret
      exact ⟨rfl, n, rfl⟩

theorem strings_same (l : List ByteArray) (v v' : Value) (base base' : Nat) (w : World) (h : Strs w base v l) (h' : Strs w base' v' l) (hl : l.length ≤ 1000) :
    Calls Try.prog 28 #[v, v'] w fun e w' => e = .returned (.bool true) ∧ ∃ n, w' = w.drewN n := by
  by_cases h0 : 0 < l.length
  · obtain ⟨g, c, rfl, _⟩ := Strs.form h h0
    obtain ⟨g', c', rfl, _⟩ := Strs.form h' h0
    exact strings_full l g g' c c' base base' w h h' hl
  · obtain ⟨a, c, rfl⟩ := h.len
    obtain ⟨a', c', rfl⟩ := h'.len
    have e : l.length = 0 := by omega
    rw [e]
    exact strings_nil a a' c c' w

end Go.Proofs.Ytmhjdpmibfkhnaa
