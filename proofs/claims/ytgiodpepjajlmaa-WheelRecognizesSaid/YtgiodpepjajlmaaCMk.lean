/-
  Stage 6: the maker's Name and Wagon.
-/
import Derived.Test.YtgiodpepjajlmaaCWagR
import Derived.Test.YtgiodpepjajlmaaMkPick
set_option linter.unusedSimpArgs false
set_option linter.unusedVariables false
namespace Go.Proofs.Ytgiodpepjajlmaa
open Go.RowKit

def namesL : List ByteArray := [⟨#[97]⟩, ⟨#[98]⟩, ⟨#[99]⟩, ⟨#[100]⟩, ⟨#[101]⟩, ⟨#[110, 111, 114, 116, 104]⟩, ⟨#[115, 111, 117, 116, 104]⟩, ⟨#[112, 111, 114, 116, 49]⟩, ⟨#[120, 57]⟩, ⟨#[97, 98, 99, 100, 101, 102, 103, 104, 105, 106, 107, 108]⟩]
theorem names_ok : ∀ i : Fin 10, nameS (namesL.getD i ⟨#[]⟩) = true := by decide
/-- A cell of a block of strings that has just been laid. -/
theorem new_str (W : World) (T : TypeId) (l : List ByteArray) (i : Nat) (hi : i < l.length) : (W.alloc (.cells (l.map Value.string).toArray T)).cell? ⟨W.heap.size, i, none⟩ = some (.string (l.getD i ⟨#[]⟩)) := by
  rw [cell_new]
  simp [hi]
set_option maxHeartbeats 800000 in
theorem mname_any (m N : Nat) (w : World) (h : IsMk w m N) (hN : N ≤ 100000000000) :
    Calls Try.prog 39 #[.pointer (some ⟨m, 0, none⟩)] w (StrPost m (N + 1) (fun s => nameS s = true) w) := by
  have hm := h.lt
  go_enter Try.func39, Try.ntmps39
  go_wp2_with fail
  refine (next_any m N _ _ (h.alloc _) (by omega) (by omega) (by omega)).mono ?_
  rintro e w1 ⟨v, rfl, v1, v2, k1, k2⟩
  obtain ⟨i, rfl⟩ := Int.eq_ofNat_of_zero_le v1
  have hi : i < namesL.length := by show i < 10; omega
  have hc := (k2.cell (p := ⟨w.heap.size, i, none⟩) (by simp) (by simp; omega)).trans (new_str w 9 namesL i hi)
  have ho := names_ok ⟨i, by omega⟩
  simp only at ho
  generalize namesL.getD i ⟨#[]⟩ = s at *
  have K1 := Lib.hid k1
  have K2 := Lib.hid (((Moves.refl m w).alloc _).trans k2)
  have HO := Lib.hid ho
  have v3 : (i : Int) < 10 := by omega
  clear k1 k2 ho v2
  go_wp2_with fail
  go_ret
  exact ⟨s, rfl, HO.out, K1.out, K2.out⟩
end Go.Proofs.Ytgiodpepjajlmaa
