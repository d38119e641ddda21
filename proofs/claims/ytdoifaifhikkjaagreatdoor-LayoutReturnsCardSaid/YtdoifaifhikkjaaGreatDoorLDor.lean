/-
  Stage 9: what the rows' variables hold.
-/
import Derived.Test.YtdoifaifhikkjaaGreatDoorLEl
import Derived.Test.YtdoifaifhikkjaaGreatDoorLShelf
import Derived.Lib.LaidTab
set_option linter.unusedSimpArgs false
set_option linter.unusedVariables false
namespace Go.Proofs.YtdoifaifhikkjaaGreatDoor
open Go.RowKit Go.Lib

def kdV : List Value := [.string ⟨#[99, 114, 101, 115, 116]⟩, .int .i64 2, .int .i64 0, .int .i64 1, .string ⟨#[115, 101, 103, 109, 101, 110, 116]⟩, .int .i64 6, .int .i64 3, .int .i64 1, .string ⟨#[114, 101, 116, 97, 114, 100, 101, 114]⟩, .int .i64 7, .int .i64 4, .int .i64 1, .string ⟨#[115, 119, 105, 116, 99, 104]⟩, .int .i64 6, .int .i64 3, .int .i64 2, .string ⟨#[116, 114, 97, 99, 107]⟩, .int .i64 6, .int .i64 3, .int .i64 0]
def sfV : List Value := [.string ⟨#[]⟩, .string ⟨#[58, 108, 101, 102, 116]⟩, .string ⟨#[58, 114, 105, 103, 104, 116]⟩]
theorem gKd : Tryz.prog.globalNamed "humpyard/layout.kinds" = some 0 := by kernel_rfl
theorem gSf : Tryz.prog.globalNamed "humpyard/layout.suffixes" = some 1 := by kernel_rfl
theorem gPw : Tryz.prog.globalNamed "internal/strconv.uint64pow10" = some 3 := by kernel_rfl
theorem gEr : Tryz.prog.globalNamed "strconv.ErrRange" = some 7 := by kernel_rfl
/-- The variables, as the rows list them. -/
structure Dor (w : World) : Prop where
  vk : w.var? Tryz.prog "humpyard/layout.kinds" = some kdV.toArray
  vs : w.var? Tryz.prog "humpyard/layout.suffixes" = some sfV.toArray
  vp : Lib.TabIs Tryz.prog w "internal/strconv.uint64pow10" .u64 Lib.pow10Tab
  ve : ∃ tp p, w.var? Tryz.prog "strconv.ErrRange" = some #[.iface tp p]
  ml : ∃ m, w.cell? ⟨2, 0, none⟩ = some (.int .i64 m)
theorem var_lt {P : Program} {w : World} {n : String} {g : Nat} {cs : Array Value} (h : w.var? P n = some cs) (hg : P.globalNamed n = some g) : g < w.heap.size := by
  unfold World.var? at h
  rw [hg] at h
  simp only [Option.bind_some] at h
  cases hh : w.heap[g]? with
  | none => rw [hh] at h; cases h
  | some o => exact (Array.getElem?_eq_some_iff.1 hh).1
theorem var_below {P : Program} {w w' : World} {n : String} {g : Nat} {cs : Array Value} (h : w.var? P n = some cs) (hg : P.globalNamed n = some g) (hb : Below w.heap.size w w') : w'.var? P n = some cs := by
  have hlt := var_lt h hg
  unfold World.var? at h ⊢
  rw [hg] at h ⊢
  simp only [Option.bind_some] at h ⊢
  rw [hb.block g hlt]
  exact h
theorem Dor.below {w w' : World} (h : Dor w) (hb : Below w.heap.size w w') : Dor w' :=
  ⟨var_below h.vk gKd hb, var_below h.vs gSf hb, var_below h.vp gPw hb, by obtain ⟨tp, p, hv⟩ := h.ve; exact ⟨tp, p, var_below hv gEr hb⟩, by obtain ⟨m, hm⟩ := h.ml; exact ⟨m, (hb.cell (lt_of_cell hm)).trans hm⟩⟩
theorem Dor.drewN {w : World} (h : Dor w) (n : Nat) : Dor (w.drewN n) := h.below (bdn (Below.refl _ _))
theorem Dor.alloc {w : World} (h : Dor w) (o : Obj) : Dor (w.alloc o) := h.below ((Below.refl _ _).alloc (Nat.le_refl _) _)
theorem Dor.kd {w : World} (h : Dor w) (k : Nat) : w.cell? ⟨0, k, none⟩ = kdV[k]? := by
  have := World.var?_cell gKd h.vk k
  rw [this]; simp
theorem Dor.sf {w : World} (h : Dor w) (k : Nat) : w.cell? ⟨1, k, none⟩ = sfV[k]? := by
  have := World.var?_cell gSf h.vs k
  rw [this]; simp
end Go.Proofs.YtdoifaifhikkjaaGreatDoor
