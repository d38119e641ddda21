/-
  Stage 9: a map from names to indexes that the call has made: what it holds, its look-up and its store.
-/
import Derived.Test.YtdoifaifhikkjaaGreatDoorLMap
import Derived.Maps.OwnSet
set_option linter.unusedSimpArgs false
set_option linter.unusedVariables false
namespace Go.Proofs.YtdoifaifhikkjaaGreatDoor
open Go.RowKit Go.Maps Go.WideMaps

theorem zeroI (w : World) : (zeroValue 3).run Tryz.prog w = .ok (.int .i64 0) w := by kernel_rfl
abbrev Idx := ByteArray → Option Nat
def updI (f : Idx) (s : ByteArray) (z : Nat) : Idx := fun s' => if s' = s then some z else f s'
def gI (f : Idx) (s : ByteArray) : Int := ((f s).map fun n : Nat => (n : Int)).getD 0
/-- Block b is a map that holds what f says. -/
def IMap (w : World) (b n : Nat) (f : Idx) : Prop :=
  ∃ D : DataW Unit, w.ownsMap Tryz.prog 9 (plainElem Tryz.prog 3) b n D ∧ IsMap D ∧
    ∀ s kl, keyOf Tryz.prog 9 (.string s) = some kl → Maps.has D kl = (f s).isSome ∧ D.atKey kl (.lit (.int .i64 0)) = .lit (.int .i64 (gI f s))
theorem IMap.made (w : World) : IMap (w.alloc (.map #[] 0)) w.heap.size 0 (fun _ => none) :=
  ⟨.map [], World.ownsMap_made _ _ _ _, isMap_empty, fun s kl h => ⟨rfl, rfl⟩⟩
theorem IMap.lt {w : World} {b n : Nat} {f : Idx} (h : IMap w b n f) : b < w.heap.size := by
  obtain ⟨D, h1, _⟩ := h; exact h1.lt
theorem IMap.below {w w' : World} {b n : Nat} {f : Idx} (h : IMap w b n f) (k : Below w.heap.size w w') : IMap w' b n f := by
  obtain ⟨D, h1, h2⟩ := h
  have hl := h1.lt
  obtain ⟨es, clock, hb, h3⟩ := h1
  exact ⟨D, ⟨es, clock, (k.block b hl).trans hb, h3⟩, h2⟩
theorem IMap.alloc {w : World} {b n : Nat} {f : Idx} (h : IMap w b n f) (o : Obj) : IMap (w.alloc o) b n f := h.below ((Below.refl _ _).alloc (Nat.le_refl _) _)
theorem IMap.drewN {w : World} {b n : Nat} {f : Idx} (h : IMap w b n f) (k : Nat) : IMap (w.drewN k) b n f := h.below ⟨rfl, rfl, rfl, Nat.le_refl _, fun _ _ => rfl⟩
theorem IMap.set {w : World} {b n : Nat} {f : Idx} (h : IMap w b n f) {a : Addr} (ha : b ≠ a.block) (u : Value) : IMap (w.setCell a u) b n f := by
  obtain ⟨D, h1, h2⟩ := h; exact ⟨D, h1.setCell ha u, h2⟩
theorem IMap.grown {w w' : World} {b n : Nat} {f : Idx} {row : Option Nat} (h : IMap w b n f) (g : w.grownBy w' row) (hr : some b ≠ row) : IMap w' b n f := by
  obtain ⟨D, h1, h2⟩ := h; exact ⟨D, h1.kept g hr, h2⟩
set_option maxRecDepth 100000 in
theorem IMap.look {w : World} {b n : Nat} {f : Idx} (h : IMap w b n f) (s : ByteArray) (hs : s.size ≤ maxLen) :
    (Instr.lookup 59 (.map (some b)) (.string s) true).run Tryz.prog w = .ok (.tuple #[.int .i64 (gI f s), .bool (f s).isSome]) w := by
  obtain ⟨D, h1, _, h2⟩ := h
  have hk := keyOf_string_mk (P := Tryz.prog) Tryz.underlying9 hs
  obtain ⟨v, ps, hr, hv⟩ := h1.look_ok lawS Tryz.underlying59 (zeroI w) (plainElem_int (q := .i64) Tryz.underlying3 (by decide)) hk
  obtain ⟨c, rfl, hc, _⟩ := plainElem_int_inv Tryz.underlying3 hv
  obtain ⟨g1, g2⟩ := h2 s _ hk
  rw [g1] at hr
  have hc' := congrArg Prod.fst hc
  simp only [g2] at hc'
  injection hc' with hc'
  injection hc' with _ hc'
  rw [hr, hc']
set_option maxRecDepth 100000 in
theorem IMap.put {w : World} {b n : Nat} {f : Idx} (h : IMap w b n f) (hn : n < maxLen) (s : ByteArray) (z : Nat) (hs : s.size ≤ maxLen) (hz : (Lit.int .i64 (z : Int)).wf = true) :
    ∃ w', (Instr.mapUpdate 59 (.map (some b)) (.string s) (.int .i64 (z : Int))).run Tryz.prog w = .ok () w' ∧ IMap w' b (n + 1) (updI f s z) ∧ w.grownBy w' (some b) := by
  obtain ⟨D, h1, hD, h2⟩ := h
  have hk := keyOf_string_mk (P := Tryz.prog) Tryz.underlying9 hs
  obtain ⟨w', hr, h3, h4⟩ := h1.update lawS Tryz.underlying59 hn hk (plainElem_int (q := .i64) Tryz.underlying3 hz)
  refine ⟨w', hr, ⟨_, h3, hD.put _ _, fun s' kl' hk' => ?_⟩, h4⟩
  unfold gI updI
  by_cases e : s' = s
  · subst e
    rw [hk] at hk'
    injection hk' with hk'
    subst hk'
    rw [if_pos rfl]
    exact ⟨has_put_same hD (lawS.key hk) _, atKey_put_same hD (lawS.key hk) _ _⟩
  · rw [if_neg e]
    have hne : kl' ≠ .string s.data.toList := fun g => by
      rw [g] at hk'
      have := lawS.inj hk hk'
      simp at this
      exact e this.symm
    obtain ⟨g1, g2⟩ := h2 s' kl' hk'
    exact ⟨(has_put_other hne _).trans g1, (atKey_put_other hne _ _).trans g2⟩
end Go.Proofs.YtdoifaifhikkjaaGreatDoor
