/-
  Stage 6: the reference's two.
-/
import Derived.Test.YtjgeolfjhfdbmaaCEnd
import Derived.Test.YtjgeolfjhfdbmaaCRd
import Derived.BigQuiet
set_option linter.unusedSimpArgs false
set_option linter.unusedVariables false
namespace Go.Proofs.Ytjgeolfjhfdbmaa
open Go.RowKit

theorem rtwo_any (ad : Addr) (n c : Nat) (x y : Int) (w : World) (hn : 2 ≤ n) (h0 : w.cell? ad = some (.int .u8 x)) (h1 : w.cell? ⟨ad.block, ad.off + 1, none⟩ = some (.int .u8 y)) (x0 : 0 ≤ x) (x1 : x ≤ 255) (y0 : 0 ≤ y) (y1 : y ≤ 255) :
    Calls Try.prog 43 #[.slice (some ad) n c] w fun e w' => e = .returned (.int .i64 (x * 256 + y)) ∧ ∃ m, w' = w.drewN m := by
  have q0 : (0 : Int) < (n : Int) := by omega
  have q1 : (1 : Int) < (n : Int) := by omega
  go_enter Try.func43, Try.ntmps43
  go_upto_region 1 with fail
  go_quiet (fail)
  clear h0 h1
  go_wp2_with fail
  go_ret
  exact ⟨rfl, nq, rfl⟩
end Go.Proofs.Ytjgeolfjhfdbmaa
