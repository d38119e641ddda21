/-
  The maker's Pick.
-/
import Derived.Test.YtknkgcphamhjlaaMaker
set_option linter.unusedSimpArgs false
set_option linter.unusedVariables false
namespace Go.Proofs.Ytknkgcphamhjlaa
open Go.RowKit

/-- What Pick leaves: one of the numbers of the list. -/
def PickPost (m N : Nat) (P : Int → Prop) (w : World) (e : Ending) (w' : World) : Prop := ∃ v : Int, e = .returned (.int .i64 v) ∧ P v ∧ IsMk w' m N ∧ Moves m w w'

set_option maxHeartbeats 400000 in
theorem pick_any (m N : Nat) (P : Int → Prop) (b len cap : Nat) (w : World) (h : IsMk w m N) (hN : N ≤ 1000000000000) (h1 : 1 ≤ len) (h2 : len ≤ 1000000) (hb : b ≠ m) (hl : b < w.heap.size)
    (hc : ∀ i, i < len → ∃ z : Int, w.cell? ⟨b, i, none⟩ = some (.int .i64 z) ∧ P z) :
    Calls Try.prog 17 #[.pointer (some ⟨m, 0, none⟩), .slice (some ⟨b, 0, none⟩) len cap] w (PickPost m (N + 1) P w) := by
  have HC := Lib.hid hc
  clear hc
  go_enter Try.func17, Try.ntmps17
  go_wp2_with fail
  refine (next_any m N _ _ h hN (by omega) (by omega)).mono ?_
  rintro e w1 ⟨v, rfl, v1, v2, k1, k2⟩
  obtain ⟨i, rfl⟩ := Int.eq_ofNat_of_zero_le v1
  obtain ⟨z, hz, hp⟩ := HC.out i (by omega)
  have hz1 : w1.cell? ⟨b, i, none⟩ = some (.int .i64 z) := (k2.cell (p := ⟨b, i, none⟩) hl hb).trans hz
  have v3 : (i : Int) < (len : Int) := by omega
  go_wp2_with fail
  go_ret
  exact ⟨z, rfl, hp, k1, k2⟩

end Go.Proofs.Ytknkgcphamhjlaa
