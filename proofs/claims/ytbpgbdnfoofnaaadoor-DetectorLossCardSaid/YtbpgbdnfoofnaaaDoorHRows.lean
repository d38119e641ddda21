/-
  Stage 3: Pack and Unpack, said of what is read of their results.
-/
import Derived.Test.YtbpgbdnfoofnaaaDoorHRunp
import Derived.Test.YtbpgbdnfoofnaaaDoorSame
set_option linter.unusedSimpArgs false
set_option linter.unusedVariables false
namespace Go.Proofs.YtbpgbdnfoofnaaaDoor
open Go.RowKit

/-- A slice that reads as zs, at whatever place. -/
def RowB (k : IntKind) (w : World) (A : Option Addr) (zs : List Int) : Prop := Row k w w.heap.size A zs ∧ zs.length ≤ maxLen
theorem RowB.below {k : IntKind} {w w' : World} {A : Option Addr} {zs : List Int} (h : RowB k w A zs) (b : Below w.heap.size w w') : RowB k w' A zs := ⟨h.1.below b, h.2⟩
theorem RowB.drewN {k : IntKind} {w : World} {A : Option Addr} {zs : List Int} (h : RowB k w A zs) (n : Nat) : RowB k (w.drewN n) A zs := h
theorem Own.rowB {k : IntKind} {e : TypeId} {w : World} {base : Nat} {v : Value} {zs : List Int} (h : Own k e w base v zs) : ∃ A c, v = .slice A zs.length c ∧ RowB k w A zs := by
  obtain ⟨A, c, e, r, _, l, _⟩ := h.slice
  exact ⟨A, c, e, r, l⟩
theorem row_new {k : IntKind} {W : World} {T : TypeId} (ys : List Int) : Row k (W.alloc (.cells (ys.map (Value.int k)).toArray T)) (W.alloc (.cells (ys.map (Value.int k)).toArray T)).heap.size (some ⟨W.heap.size, 0, none⟩) ys := fun j hj =>
  ⟨_, rfl, by simp, by rw [add_own, cell_new]; simp [hj]⟩

def PackRow (b : List Int) (er : Int) (w : World) (e : Ending) (w' : World) : Prop := ∃ A c, e = .returned (.tuple #[.slice A b.length c, .int .i64 er]) ∧ RowB .u8 w' A b ∧ Below w.heap.size w w'
theorem PackPost.row {zs b : List Int} {er : Int} {w w' : World} {e : Ending} (h : packR zs = (b, er)) (p : PackPost w.heap.size zs w e w') : PackRow b er w e w' := by
  obtain ⟨v, e1, O, B⟩ := p
  rw [h] at e1 O
  obtain ⟨A, c, rfl, R⟩ := Own.rowB O
  exact ⟨A, c, e1, R, B⟩
def UnpackRow (a b : List Int) (er : Int) (w : World) (e : Ending) (w' : World) : Prop := ∃ A c A' c', e = .returned (.tuple #[.slice A a.length c, .slice A' b.length c', .int .i64 er]) ∧ RowB .i64 w' A a ∧ RowB .i64 w' A' b ∧ Below w.heap.size w w'
theorem UnpackPost.row {zs a b : List Int} {er : Int} {w w' : World} {e : Ending} (h : unpackR zs = (a, b, er)) (p : UnpackPost w.heap.size zs w e w') : UnpackRow a b er w e w' := by
  obtain ⟨v, u, e1, O, P, B⟩ := p
  rw [h] at e1 O P
  obtain ⟨A, c, rfl, R⟩ := Own.rowB O
  obtain ⟨A', c', rfl, R'⟩ := Own.rowB P
  exact ⟨A, c, A', c', e1, R, R', B⟩
theorem pack_row {zs b : List Int} {er : Int} (h : packR zs = (b, er)) (A : Option Addr) (c : Nat) (w : World) (R : RowB .i64 w A zs) (D : Dat w) :
    Calls Tryd.prog 28 #[.slice A zs.length c] w (PackRow b er w) := (pack_any zs A c w R.1 R.2 D).mono fun _ _ p => p.row h
theorem rpack_row {zs b : List Int} {er : Int} (h : packR zs = (b, er)) (A : Option Addr) (c : Nat) (w : World) (R : RowB .i64 w A zs) :
    Calls Tryd.prog 33 #[.slice A zs.length c] w (PackRow b er w) := (rpack_any zs A c w R.1 R.2).mono fun _ _ p => p.row h
theorem unpack_row {zs a b : List Int} {er : Int} (h : unpackR zs = (a, b, er)) (A : Option Addr) (c : Nat) (w : World) (R : RowB .u8 w A zs) (hb : ∀ z ∈ zs, 0 ≤ z ∧ z ≤ 255) (D : Dat w) :
    Calls Tryd.prog 30 #[.slice A zs.length c] w (UnpackRow a b er w) := (unpack_any zs A c w R.1 R.2 hb D).mono fun _ _ p => p.row h
theorem runpack_row {zs a b : List Int} {er : Int} (h : unpackR zs = (a, b, er)) (A : Option Addr) (c : Nat) (w : World) (R : RowB .u8 w A zs) (hb : ∀ z ∈ zs, 0 ≤ z ∧ z ≤ 255) :
    Calls Tryd.prog 43 #[.slice A zs.length c] w (UnpackRow a b er w) := (runpack_any zs A c w R.1 R.2 hb).mono fun _ _ p => p.row h
end Go.Proofs.YtbpgbdnfoofnaaaDoor
