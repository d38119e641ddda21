/-
  Stage 11: JobExact: exact's contract and the whole law.
-/
import Derived.Test.YtpimdcljecipeaaJExh
import Derived.Test.YtpimdcljecipeaaJExW
import Derived.Test.YtpimdcljecipeaaJRdeep
import Derived.Test.YtpimdcljecipeaaJRsrt
import Derived.Test.YtpimdcljecipeaaJSane
set_option linter.unusedSimpArgs false
set_option linter.unusedVariables false
namespace Go.Proofs.Ytpimdcljecipeaa
open Go.RowKit Go.Lib

theorem exact11_all (l : List It) (A : Option Addr) (c L : Nat) (wt x y : Int) (ts : List (List Int)) (P : Option Addr) (pc T : Nat) (W : World) (hL : L = l.length) (hT : T = ts.length) (hTm : ts.length ≤ maxLen) (hi : IRow W A l) (hp : PP W P ts) :
    Calls Try.prog 7 #[jv A L c wt, .int .i64 x, .int .i64 y, .slice P T pc] W fun e w' => e = .returned (.bool true) ∧ Below W.heap.size W w' := by
  subst hL
  subst hT
  refine exact11_any l A c l.length wt x y ts P pc ts.length (validR l wt) (relE l wt x y).1 (relE l wt x y).2 (sortE l wt ts).1 (sortE l wt ts).2 (fun zs => (validR l wt = 0 → Lev l zs) ∧ (validR l wt ≠ 0 → zs = [])) (fun zs => (validR l wt = 0 → Deep l zs) ∧ (validR l wt ≠ 0 → zs = [])) ?_ ?_ W hi hp
    (fun W k => (relationF_any l A c wt x y W k).mono fun e w' h => h) (fun W k => (rrelation_any l A c wt x y W k).mono fun e w' h => h)
    (fun W k => (levels_any l A c wt W k).mono fun e w' ⟨v, zs, e1, o, p, q, B⟩ => ⟨v, zs, e1, o, ⟨p, q⟩, B⟩) (fun W k => (rlevels_any l A c wt W k).mono fun e w' ⟨v, zs, e1, o, p, q, B⟩ => ⟨v, zs, e1, o, ⟨p, q⟩, B⟩)
    (fun W k => (valid_any l A c wt W k).mono fun e w' h => h) (fun W k => (rvalid_any l A c wt W k).mono fun e w' h => h)
    (fun W k => (deepest_any l A c wt W k).mono fun e w' ⟨v, zs, e1, o, p, q, B⟩ => ⟨v, zs, e1, o, ⟨p, q⟩, B⟩) (fun W k => (rdeepest_any l A c wt W k).mono fun e w' ⟨v, zs, e1, o, p, q, B⟩ => ⟨v, zs, e1, o, ⟨p, q⟩, B⟩)
    (fun W k p => (sorted_any l A c wt ts P pc W k p hTm).mono fun e w' h => h) (fun W k p => (rsorted_any l A c wt ts P pc W k p hTm).mono fun e w' h => h)
  · rintro a b ⟨h1, h2⟩ ⟨g1, g2⟩
    by_cases hv : validR l wt = 0
    · exact lev_uniq (valid_ok hv).2.2 (h1 hv) (g1 hv)
    · rw [h2 hv, g2 hv]
  · rintro a b ⟨h1, h2⟩ ⟨g1, g2⟩
    by_cases hv : validR l wt = 0
    · exact Deep.uniq (valid_ok hv).2.2 (h1 hv) (g1 hv)
    · rw [h2 hv, g2 hv]
theorem jex_law (a : Option Addr) (len cap : Nat) (zs : List Int) (jA : Option Addr) (jc : Nat) (jl : List It) (jwt x y : Int) (P : Option Addr) (pc : Nat) (ts : List (List Int)) (w : World) (h : IsRow .i64 w a len cap zs) (hj : IRow w jA jl) (hp : PP w P ts) (hm : ts.length ≤ maxLen) :
    Calls Try.prog 3 #[.slice a len cap, jv jA jl.length jc jwt, .int .i64 x, .int .i64 y, .slice P ts.length pc] w fun e w' => e = .returned (.bool true) ∧ Below w.heap.size w w' := by
  obtain ⟨l, rfl, h1, h2, h3⟩ := h.row
  exact jex_walk a cap l jA _ jc jl jwt x y P pc _ ts w h1 h2 h3 hj rfl hp rfl hm (fun l A c L wt x y ts P pc T W e1 e2 e3 k1 k2 => exact11_all l A c L wt x y ts P pc T W e1 e2 e3 k1 k2) (fun W => four_any W) (fun W => sane_any W)
end Go.Proofs.Ytpimdcljecipeaa
