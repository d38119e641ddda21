/-
  A map from strings to bools that the call has made, all of whose elements are true: what it holds, its look-up and its store.
-/
import Derived.Test.YtgiodpepjajlmaaCWag
import Derived.Maps.OwnSet
set_option linter.unusedSimpArgs false
set_option linter.unusedVariables false
namespace Go.Proofs.Ytgiodpepjajlmaa
open Go.RowKit Go.Maps Go.WideMaps

theorem lawS : Keyed Try.prog 9 := string_keyed Try.underlying9
theorem zeroB (w : World) : (zeroValue 4).run Try.prog w = .ok (.bool false) w := by kernel_rfl
theorem plainElem_bool_inv {H : Type} {P : Program} {e : TypeId} (he : P.underlying e = some .bool) {v : Value} {z : DataW H × List MemPlace} (h : plainElem P e v = some z) : ∃ a, v = .bool a ∧ z = (.lit (.bool a), []) := by
  unfold plainElem at h
  rw [he] at h
  cases v <;> simp at h
  subst h
  exact ⟨_, rfl, rfl⟩
/-- Block b is a map that is true at the strings of l. -/
def BMap (w : World) (b n : Nat) (l : List ByteArray) : Prop :=
  ∃ D : DataW Unit, w.ownsMap Try.prog 9 (plainElem Try.prog 4) b n D ∧ IsMap D ∧
    ∀ s kl, keyOf Try.prog 9 (.string s) = some kl → D.atKey kl (.lit (.bool false)) = .lit (.bool (decide (s ∈ l)))
theorem BMap.made (w : World) : BMap (w.alloc (.map #[] 0)) w.heap.size 0 [] :=
  ⟨.map [], World.ownsMap_made _ _ _ _, isMap_empty, fun s kl h => by simp [DataW.atKey, List.not_mem_nil]⟩
theorem BMap.lt {w : World} {b n : Nat} {l : List ByteArray} (h : BMap w b n l) : b < w.heap.size := by
  obtain ⟨D, h1, _⟩ := h; exact h1.lt
theorem BMap.below {w w' : World} {b n : Nat} {l : List ByteArray} (h : BMap w b n l) (k : Below w.heap.size w w') : BMap w' b n l := by
  obtain ⟨D, h1, h2⟩ := h
  have hl := h1.lt
  obtain ⟨es, clock, hb, h3⟩ := h1
  exact ⟨D, ⟨es, clock, (k.block b hl).trans hb, h3⟩, h2⟩
theorem BMap.alloc {w : World} {b n : Nat} {l : List ByteArray} (h : BMap w b n l) (o : Obj) : BMap (w.alloc o) b n l := h.below ((Below.refl _ _).alloc (Nat.le_refl _) _)
theorem BMap.drewN {w : World} {b n : Nat} {l : List ByteArray} (h : BMap w b n l) (k : Nat) : BMap (w.drewN k) b n l := h.below ⟨rfl, rfl, rfl, Nat.le_refl _, fun _ _ => rfl⟩
end Go.Proofs.Ytgiodpepjajlmaa
