/-
  Stage 9: two lists of elements that read alike are the same (humpgen.Elements).
-/
import Derived.Test.YtakncgfnkflmoaaGreatDoorLParse
import Derived.BigQuiet
set_option linter.unusedSimpArgs false
set_option linter.unusedVariables false
namespace Go.Proofs.YtakncgfnkflmoaaGreatDoor
open Go.RowKit Go.Lib

theorem ESpelt.drewN {w : World} {ad : Addr} {x : El} (h : ESpelt w ad x) (n : Nat) : ESpelt (w.drewN n) ad x := ⟨h.c0, h.c1, h.c2, h.c3, h.c4, h.c5, h.c6, h.c7⟩
end Go.Proofs.YtakncgfnkflmoaaGreatDoor
