/-
  The maker's From.
-/
import Derived.Test.YtknkgcphamhjlaaMaker
set_option linter.unusedSimpArgs false
set_option linter.unusedVariables false
namespace Go.Proofs.Ytknkgcphamhjlaa
open Go.RowKit

set_option maxHeartbeats 400000 in
theorem from_any (m N : Nat) (a b : Int) (w : World) (h : IsMk w m N) (hN : N ≤ 1000000000000) (h1 : a ≤ b) (h2 : -1000000000000000 ≤ a) (h3 : b ≤ 1000000000000000) :
    Calls Try.prog 15 #[.pointer (some ⟨m, 0, none⟩), .int .i64 a, .int .i64 b] w (NextPost m (N + 1) a b w) := by
  go_enter Try.func15, Try.ntmps15
  go_wp2_with fail
  refine (next_any m N _ _ h hN (by omega) (by omega)).mono ?_
  rintro e w1 ⟨v, rfl, v1, v2, k1, k2⟩
  go_wp2_with fail
  go_ret
  exact NextPost.mk' (a + v) rfl (by omega) (by omega) k1 k2

end Go.Proofs.Ytknkgcphamhjlaa
