/-
  A map from places to senses that the call has made: what it holds, its look-up and its store.
-/
import Derived.Test.YtbnlaopmmgoalaaTri
import Derived.Maps.OwnSet
import Derived.DeepKeys4
set_option linter.unusedSimpArgs false
set_option linter.unusedVariables false
namespace Go.Proofs.Ytbnlaopmmgoalaa
open Go.RowKit Go.Maps Go.WideMaps

abbrev place (s d : Int) : Value := .agg #[.int .i64 s, .int .i64 d]
theorem laidOutP : laidOutB Try.prog = true := by kernel_rfl
theorem rowK : (65 : TypeId) < Try.prog.types.size := of_decide_eq_true (by kernel_rfl)
theorem wideK : (match Try.prog.underlying 65 with | some (.array _ _) | some (.struct _) => true | _ => false) = true := by kernel_rfl
theorem lawK : Keyed Try.prog 65 := Keyed.of_law (deep_law_laid laidOutP (m := 2) (by omega) rowK (by kernel_rfl) wideK)
theorem cellsK : Try.prog.cellsOf 65 = 2 := by kernel_rfl
theorem cellsI : Try.prog.cellsOf 3 = 1 := by kernel_rfl
theorem keyTK : Try.prog.keyType 65 = true := by kernel_rfl
theorem sizeT : ∃ n, Try.prog.types.size + 1 = n + 2 := ⟨Try.prog.types.size - 1, by have h : (65 : Nat) < Try.prog.types.size := rowK; omega⟩
theorem zeroI (w : World) : (zeroValue 3).run Try.prog w = .ok (.int .i64 0) w := by kernel_rfl
theorem key_place (s d : Int) (hs : (Lit.int .i64 s).wf = true) (hd : (Lit.int .i64 d).wf = true) : ∃ kl, keyOf Try.prog 65 (place s d) = some kl := by
  obtain ⟨n, hn⟩ := sizeT
  unfold keyOf
  rw [Try.underlying65, hn]
  simp [keyTK, Value.formed, Try.underlying65, cellsK, Value.cells, Program.keyLits, cellsI, Try.underlying3, hs, hd]

def upd (f : Int → Int → Option Int) (s d z : Int) : Int → Int → Option Int := fun s' d' => if s' = s ∧ d' = d then some z else f s' d'
/-- Block b is a map that holds what f says. -/
def SMap (w : World) (b n : Nat) (f : Int → Int → Option Int) : Prop :=
  ∃ D : DataW Unit, w.ownsMap Try.prog 65 (plainElem Try.prog 3) b n D ∧ IsMap D ∧
    ∀ s d kl, keyOf Try.prog 65 (place s d) = some kl → Maps.has D kl = (f s d).isSome ∧ D.atKey kl (.lit (.int .i64 0)) = .lit (.int .i64 ((f s d).getD 0))
theorem SMap.made (w : World) : SMap (w.alloc (.map #[] 0)) w.heap.size 0 (fun _ _ => none) :=
  ⟨.map [], World.ownsMap_made _ _ _ _, isMap_empty, fun s d kl h => ⟨rfl, rfl⟩⟩
theorem SMap.lt {w : World} {b n : Nat} {f : Int → Int → Option Int} (h : SMap w b n f) : b < w.heap.size := by
  obtain ⟨D, h1, _⟩ := h; exact h1.lt
theorem SMap.alloc {w : World} {b n : Nat} {f : Int → Int → Option Int} (h : SMap w b n f) (o : Obj) : SMap (w.alloc o) b n f := by
  obtain ⟨D, h1, h2⟩ := h; exact ⟨D, h1.alloc o, h2⟩
theorem SMap.below {w w' : World} {b n : Nat} {f : Int → Int → Option Int} (h : SMap w b n f) (k : Below w.heap.size w w') : SMap w' b n f := by
  obtain ⟨D, h1, h2⟩ := h
  have hl := h1.lt
  obtain ⟨es, clock, hb, h3⟩ := h1
  exact ⟨D, ⟨es, clock, (k.block b hl).trans hb, h3⟩, h2⟩
theorem SMap.more {w : World} {b n m : Nat} {f : Int → Int → Option Int} (h : SMap w b n f) (k : n ≤ m) : SMap w b m f := by
  obtain ⟨D, h1, h2⟩ := h; exact ⟨D, h1.mono k, h2⟩
theorem SMap.look {w : World} {b n : Nat} {f : Int → Int → Option Int} (h : SMap w b n f) (s d : Int) (hs : (Lit.int .i64 s).wf = true) (hd : (Lit.int .i64 d).wf = true) :
    (Instr.lookup 49 (.map (some b)) (place s d) true).run Try.prog w = .ok (.tuple #[.int .i64 ((f s d).getD 0), .bool (f s d).isSome]) w := by
  obtain ⟨D, h1, _, h2⟩ := h
  obtain ⟨kl, hk⟩ := key_place s d hs hd
  obtain ⟨v, ps, hr, hv⟩ := h1.look_ok lawK Try.underlying49 (zeroI w) (plainElem_int (q := .i64) Try.underlying3 (by decide)) hk
  obtain ⟨c, rfl, hc, _⟩ := plainElem_int_inv Try.underlying3 hv
  obtain ⟨g1, g2⟩ := h2 s d kl hk
  rw [g1] at hr
  have hc' := congrArg Prod.fst hc
  simp only [g2] at hc'
  injection hc' with hc'
  injection hc' with _ hc'
  rw [hr, hc']
theorem SMap.put {w : World} {b n : Nat} {f : Int → Int → Option Int} (h : SMap w b n f) (hn : n < maxLen) (s d z : Int) (hs : (Lit.int .i64 s).wf = true) (hd : (Lit.int .i64 d).wf = true) (hz : (Lit.int .i64 z).wf = true) :
    ∃ w', (Instr.mapUpdate 49 (.map (some b)) (place s d) (.int .i64 z)).run Try.prog w = .ok () w' ∧ SMap w' b (n + 1) (upd f s d z) ∧ w.grownBy w' (some b) := by
  obtain ⟨D, h1, hD, h2⟩ := h
  obtain ⟨kl, hk⟩ := key_place s d hs hd
  obtain ⟨w', hr, h3, h4⟩ := h1.update lawK Try.underlying49 hn hk (plainElem_int (q := .i64) Try.underlying3 hz)
  refine ⟨w', hr, ⟨_, h3, hD.put _ _, fun s' d' kl' hk' => ?_⟩, h4⟩
  unfold upd
  by_cases e : s' = s ∧ d' = d
  · obtain ⟨rfl, rfl⟩ := e
    rw [hk] at hk'
    injection hk' with hk'
    subst hk'
    rw [if_pos ⟨rfl, rfl⟩]
    exact ⟨has_put_same hD (lawK.key hk) _, atKey_put_same hD (lawK.key hk) _ _⟩
  · rw [if_neg e]
    have hne : kl' ≠ kl := fun g => by
      subst g
      have := lawK.inj hk hk'
      simp at this
      exact e ⟨this.1.symm, this.2.symm⟩
    obtain ⟨g1, g2⟩ := h2 s' d' kl' hk'
    exact ⟨(has_put_other hne _).trans g1, (atKey_put_other hne _ _).trans g2⟩
end Go.Proofs.Ytbnlaopmmgoalaa
