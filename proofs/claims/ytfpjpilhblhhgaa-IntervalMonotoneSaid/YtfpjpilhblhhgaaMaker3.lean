/-
  The contract of New: a maker over the list that came in.
-/
import Derived.Test.YtfpjpilhblhhgaaMaker2
set_option linter.unusedSimpArgs false
set_option linter.unusedVariables false
namespace Go.Proofs.Ytfpjpilhblhhgaa
open Go.RowKit

theorem lt_of_cell {w : World} {a : Addr} {v : Value} (h : w.cell? a = some v) : a.block < w.heap.size := by
  by_cases g : a.block < w.heap.size
  · exact g
  · have e : w.heap[a.block]? = none := by simp; omega
    unfold World.cell? at h
    rw [e] at h
    cases h

theorem mk_new {w : World} {a : Option Addr} {len cap : Nat} {zs : List Int} {T : TypeId} (h : IsRow .i64 w a len cap zs) : IsMk (w.alloc (.cells #[.slice a len cap, .int .i64 0] T)) w.heap.size 0 := by
  have e : (w.alloc (.cells #[.slice a len cap, .int .i64 0] T)).heap[w.heap.size]? = some (.cells #[.slice a len cap, .int .i64 0] T) := by
    show (w.heap.push _)[w.heap.size]? = _
    rw [Array.getElem?_push, if_pos rfl]
  refine ⟨by simp, ⟨0, Nat.le_refl _, by rw [cell_new]; rfl⟩, ?_, a, len, cap, by rw [cell_new]; rfl, ?_, ?_⟩
  · unfold World.frozen?; rw [e]; rfl
  · rcases h with ⟨rfl, rfl, rfl, rfl⟩ | ⟨x, rfl, hl, hm, hz, hc, hw⟩
    · exact Nat.zero_le _
    · exact Nat.le_trans hl hm
  · rcases h with ⟨rfl, rfl, rfl, rfl⟩ | ⟨⟨b, off, spot⟩, rfl, hl, hm, hz, hc, hw⟩
    · exact Or.inl rfl
    · by_cases h0 : len = 0
      · exact Or.inl h0
      · have h1 := hc 0 (by omega)
        have hs : spot = none := by simpa [Addr.add] using World.cell?_spot h1
        subst hs
        have hb : b < w.heap.size := by simpa [Addr.add] using lt_of_cell h1
        refine Or.inr ⟨b, off, rfl, hb, fun i hi => ?_⟩
        have hi' : i < zs.length := by omega
        refine ⟨zs.getD i 0, ?_, ?_⟩
        · rw [((Below.refl w.heap.size w).alloc (Nat.le_refl _) _).cell (p := ⟨b, off + i, none⟩) hb]
          have g := hc i hi'
          by_cases i0 : i = 0
          · subst i0; simpa [Addr.add] using g
          · simpa [Addr.add, i0] using g
        · have := bounds_i64 (hw (zs.getD i 0) (by rw [List.getD_eq_getElem?_getD, List.getElem?_eq_getElem hi', Option.getD_some]; exact List.getElem_mem hi'))
          exact this

set_option maxHeartbeats 400000 in
theorem new_any (a : Option Addr) (len cap : Nat) (w : World) :
    Calls Try.prog 10 #[.slice a len cap] w fun e w' => e = .returned (.pointer (some ⟨w.heap.size, 0, none⟩)) ∧ w' = w.alloc (.cells #[.slice a len cap, .int .i64 0] 48) := by
  go_enter Try.func10, Try.ntmps10
  go_wp2
  go_ret
  exact ⟨rfl, rfl⟩

end Go.Proofs.Ytfpjpilhblhhgaa
