/-
  A map from strings to bools that the call has made, all of whose elements are true: what it holds, its look-up and its store.
-/
import Derived.Test.YtdoifaifhikkjaaGreatDoorLEl
import Derived.Maps.OwnSet
set_option linter.unusedSimpArgs false
set_option linter.unusedVariables false
namespace Go.Proofs.YtdoifaifhikkjaaGreatDoor
open Go.RowKit Go.Maps Go.WideMaps

theorem lawS : Keyed Tryz.prog 9 := string_keyed Tryz.underlying9
theorem zeroB (w : World) : (zeroValue 4).run Tryz.prog w = .ok (.bool false) w := by kernel_rfl
theorem plainElem_bool_inv {H : Type} {P : Program} {e : TypeId} (he : P.underlying e = some .bool) {v : Value} {z : DataW H × List MemPlace} (h : plainElem P e v = some z) : ∃ a, v = .bool a ∧ z = (.lit (.bool a), []) := by
  unfold plainElem at h
  rw [he] at h
  cases v <;> simp at h
  subst h
  exact ⟨_, rfl, rfl⟩
/-- Block b is a map that is true at the strings of l. -/
def BMap (w : World) (b n : Nat) (l : List ByteArray) : Prop :=
  ∃ D : DataW Unit, w.ownsMap Tryz.prog 9 (plainElem Tryz.prog 4) b n D ∧ IsMap D ∧
    ∀ s kl, keyOf Tryz.prog 9 (.string s) = some kl → D.atKey kl (.lit (.bool false)) = .lit (.bool (decide (s ∈ l)))
theorem BMap.made (w : World) : BMap (w.alloc (.map #[] 0)) w.heap.size 0 [] :=
  ⟨.map [], World.ownsMap_made _ _ _ _, isMap_empty, fun s kl h => by simp [DataW.atKey, List.not_mem_nil]⟩
theorem BMap.lt {w : World} {b n : Nat} {l : List ByteArray} (h : BMap w b n l) : b < w.heap.size := by
  obtain ⟨D, h1, _⟩ := h; exact h1.lt
theorem BMap.below {w w' : World} {b n : Nat} {l : List ByteArray} (h : BMap w b n l) (k : Below w.heap.size w w') : BMap w' b n l := by
  obtain ⟨D, h1, h2⟩ := h
  have hl := h1.lt
  obtain ⟨es, clock, hb, h3⟩ := h1
  exact ⟨D, ⟨es, clock, (k.block b hl).trans hb, h3⟩, h2⟩
theorem BMap.alloc {w : World} {b n : Nat} {l : List ByteArray} (h : BMap w b n l) (o : Obj) : BMap (w.alloc o) b n l := h.below ((Below.refl _ _).alloc (Nat.le_refl _) _)
theorem BMap.drewN {w : World} {b n : Nat} {l : List ByteArray} (h : BMap w b n l) (k : Nat) : BMap (w.drewN k) b n l := h.below ⟨rfl, rfl, rfl, Nat.le_refl _, fun _ _ => rfl⟩
set_option maxRecDepth 100000 in
theorem BMap.look {w : World} {b n : Nat} {l : List ByteArray} (h : BMap w b n l) (s : ByteArray) (hs : s.size ≤ maxLen) :
    (Instr.lookup 64 (.map (some b)) (.string s) false).run Tryz.prog w = .ok (.bool (decide (s ∈ l))) w := by
  obtain ⟨D, h1, _, h2⟩ := h
  have hk := keyOf_string_mk (P := Tryz.prog) Tryz.underlying9 hs
  obtain ⟨v, ps, hr, hv⟩ := h1.lookup lawS Tryz.underlying64 (zeroB w) (plainElem_bool Tryz.underlying4 false) hk
  obtain ⟨c, rfl, hc⟩ := plainElem_bool_inv Tryz.underlying4 hv
  have hc' := congrArg Prod.fst hc
  simp only [h2 s _ hk] at hc'
  injection hc' with hc'
  injection hc' with hc'
  rw [hr, hc']
set_option maxRecDepth 100000 in
theorem BMap.put {w : World} {b n : Nat} {l : List ByteArray} (h : BMap w b n l) (hn : n < maxLen) (s : ByteArray) (hs : s.size ≤ maxLen) :
    ∃ w', (Instr.mapUpdate 64 (.map (some b)) (.string s) (.bool true)).run Tryz.prog w = .ok () w' ∧ BMap w' b (n + 1) (l ++ [s]) ∧ w.grownBy w' (some b) := by
  obtain ⟨D, h1, hD, h2⟩ := h
  have hk := keyOf_string_mk (P := Tryz.prog) Tryz.underlying9 hs
  obtain ⟨w', hr, h3, h4⟩ := h1.update lawS Tryz.underlying64 hn hk (plainElem_bool Tryz.underlying4 true)
  refine ⟨w', hr, ⟨_, h3, hD.put _ _, fun s' kl' hk' => ?_⟩, h4⟩
  by_cases e : s' = s
  · subst e
    rw [hk] at hk'
    injection hk' with hk'
    subst hk'
    rw [atKey_put_same hD (lawS.key hk) _ _]
    congr 2
    exact (decide_eq_true (by simp)).symm
  · have hne : kl' ≠ .string s.data.toList := fun g => by
      rw [g] at hk'
      have := lawS.inj hk hk'
      simp at this
      exact e this.symm
    rw [atKey_put_other hne _ _, h2 s' kl' hk']
    congr 2
    exact decide_eq_decide.2 (by simp [e])
end Go.Proofs.YtdoifaifhikkjaaGreatDoor
