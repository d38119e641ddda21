/-
  Stage 6: lists of bytes; the check sum: the program and the reference.
-/
import Derived.Test.YtgiodpepjajlmaaRec
set_option linter.unusedSimpArgs false
set_option linter.unusedVariables false
namespace Go.Proofs.Ytgiodpepjajlmaa
open Go.RowKit

/-- Numbers of a byte. -/
def BB (bs : List Int) : Prop := ∀ x ∈ bs, 0 ≤ x ∧ x ≤ 255
theorem BB.app {a b : List Int} (h : BB a) (g : BB b) : BB (a ++ b) := fun x hx => (List.mem_append.1 hx).elim (h x) (g x)
theorem BB.take {a : List Int} (h : BB a) (n : Nat) : BB (a.take n) := fun x hx => h x (List.mem_of_mem_take hx)
theorem BB.drop {a : List Int} (h : BB a) (n : Nat) : BB (a.drop n) := fun x hx => h x (List.mem_of_mem_drop hx)
theorem BB.nil : BB [] := fun x hx => by cases hx
theorem BB.at_ {a : List Int} (h : BB a) (k : Nat) : 0 ≤ a.getD k 0 ∧ a.getD k 0 ≤ 255 := by
  by_cases hk : k < a.length
  · exact h _ (getD_mem hk)
  · rw [List.getD_eq_getElem?_getD, List.getElem?_eq_none (by omega)]; exact ⟨by decide, by decide⟩
/-- The slice from A on reads as the bytes bs. -/
structure BRow (w : World) (A : Option Addr) (bs : List Int) : Prop where
  row : Row .u8 w w.heap.size A bs
  len : bs.length ≤ 140737488355328
  bd : BB bs
theorem BRow.below {w w' : World} {A : Option Addr} {bs : List Int} (h : BRow w A bs) (b : Below w.heap.size w w') : BRow w' A bs := ⟨h.row.below b, h.len, h.bd⟩
theorem BRow.drewN {w : World} {A : Option Addr} {bs : List Int} (h : BRow w A bs) (n : Nat) : BRow (w.drewN n) A bs := ⟨h.row.drewN n, h.len, h.bd⟩
theorem BRow.alloc {w : World} {A : Option Addr} {bs : List Int} (h : BRow w A bs) (o : Obj) : BRow (w.alloc o) A bs := h.below ((Below.refl _ _).alloc (Nat.le_refl _) _)
theorem BRow.take {w : World} {A : Option Addr} {bs : List Int} (h : BRow w A bs) (n : Nat) : BRow w A (bs.take n) := ⟨h.row.take n, by rw [List.length_take]; have := h.len; omega, h.bd.take n⟩
theorem BRow.drop {w : World} {ad : Addr} {bs : List Int} (h : BRow w (some ad) bs) (n : Nat) : BRow w (some (ad.add n)) (bs.drop n) :=
  ⟨fun j hj => by
    rw [List.length_drop] at hj
    obtain ⟨ad', e, hb, hv⟩ := h.row (n + j) (by omega)
    injection e with e
    subst e
    refine ⟨_, rfl, by rw [add_block]; exact hb, ?_⟩
    rw [add_add, hv]
    congr 2
    rw [List.getD_eq_getElem?_getD, List.getD_eq_getElem?_getD, List.getElem?_drop], by rw [List.length_drop]; have := h.len; omega, h.bd.drop n⟩
theorem BRow.nil {w : World} {A : Option Addr} : BRow w A [] := ⟨Row.nil, Nat.zero_le _, BB.nil⟩
theorem Own.brow {w : World} {e : TypeId} {base : Nat} {v : Value} {bs : List Int} (h : Own .u8 e w base v bs) (hb : BB bs) (hl : bs.length ≤ 140737488355328) : ∃ A c, v = .slice A bs.length c ∧ BRow w A bs ∧ bs.length ≤ c := by
  obtain ⟨A, c, rfl, R, h1, h2, _⟩ := h.slice
  exact ⟨A, c, rfl, ⟨R, hl, hb⟩, h1⟩

/-- The check sum of the first n bytes. -/
def chkTo (bs : List Int) : Nat → Int
  | 0 => 0
  | n + 1 => (chkTo bs n + ((n : Int) + 1) * bs.getD n 0) % 65521
def chk (bs : List Int) : Int := chkTo bs bs.length
theorem chkTo_bd (bs : List Int) (n : Nat) : 0 ≤ chkTo bs n ∧ chkTo bs n < 65521 := by
  cases n with
  | zero => exact ⟨Int.le_refl _, by show (0 : Int) < 65521; decide⟩
  | succ n => unfold chkTo; omega
theorem chk_bd' (bs : List Int) : 0 ≤ chk bs ∧ chk bs < 65521 := chkTo_bd bs _
theorem mul_bd {k c : Int} (h0 : 0 ≤ k) (h1 : 0 ≤ c) (h2 : c ≤ 255) : 0 ≤ k * c ∧ k * c ≤ k * 255 :=
  ⟨Int.mul_nonneg h0 h1, Int.mul_le_mul_of_nonneg_left h2 h0⟩
theorem chk_step (v k x : Int) : (v + k % 65521 * x) % 65521 = (v + k * x) % 65521 := by
  rw [Int.add_emod, Int.mul_emod, Int.emod_emod_of_dvd _ (Int.dvd_refl _), ← Int.mul_emod, ← Int.add_emod]
end Go.Proofs.Ytgiodpepjajlmaa
