/-
  Stage 10: what the laws share: a layout of the maker is valid; lists of numbers read.
-/
import Derived.Test.YteeoecegpnmafaaDoorTSane
import Derived.Test.YteeoecegpnmafaaDoorTMkLay
set_option linter.unusedSimpArgs false
set_option linter.unusedVariables false
namespace Go.Proofs.YteeoecegpnmafaaDoor
open Go.RowKit Go.Lib

theorem sz_of {l : List El} (h : vlE [] l = 0) : SzE l := fun x hx => by
  obtain ⟨k, hk⟩ := List.mem_iff_getElem?.1 hx
  have := nameS_size (soundE_name (vl_at h hk).1)
  unfold maxLen; omega
theorem LayOk.valid {n : Nat} {l : List El} (h : LayOk n l) (hn : n ≤ 12) : validE l = 0 ∧ vlE [] l = 0 ∧ 1 ≤ l.length ∧ l.length ≤ 76 := by
  obtain ⟨h1, h2, h3, h4⟩ := h
  exact ⟨h1.valid (by omega) (by omega) (by omega), h1.vl, h2, by omega⟩
theorem elemInt : Tryd.prog.elem 22 = 3 := by kernel_rfl
theorem sizeInt (w : World) : (Go.sizeOf 3).run Tryd.prog w = .ok 1 w := by kernel_rfl
theorem slice_intsT (A : Option Addr) (L c k : Nat) (W : World) (hm : k ≤ c) : (Instr.slice 22 (.slice A L c) none (some (.int .i64 (k : Int))) none).run Tryd.prog W = .ok (.slice A k c) W := by
  rw [run_slice_h (P := Tryd.prog) W 22 A L c (by rw [elemInt]; exact Tryd.underlying22) .i64 (k : Int) (by omega) (by omega), elemInt]
  simp [sizeInt, Result.andThen, sliced]
  intro _; cases A <;> simp [Addr.add]
/-- A list of the call's own that is not empty. -/
theorem own_some {w : World} {base : Nat} {v : Value} {zs : List Int} (h : Own .i64 3 w base v zs) (h0 : zs.length ≠ 0) :
    ∃ g c, v = .slice (some ⟨g, 0, none⟩) zs.length c ∧ zs.length ≤ c ∧ base ≤ g ∧ g < w.heap.size ∧ ∀ j, j < zs.length → w.cell? ⟨g, j, none⟩ = some (.int .i64 (zs.getD j 0)) := by
  obtain ⟨A, c, e, R, h1, _, hg⟩ := h.slice
  obtain ⟨g, rfl, hb, hl⟩ := hg (by omega)
  refine ⟨g, c, e, h1, hb, hl, fun j hj => ?_⟩
  obtain ⟨ad, e2, _, hc⟩ := R j hj
  injection e2 with e2
  subst e2
  rw [add_own] at hc
  exact hc
theorem lrow_of {w : World} {base : Nat} {A : Option Addr} {n c : Nat} {l : List El} (h : ROwn ER 37 w base (.slice A n c) l) (D : Dor w) (hz : SzE l) : LRow w A c l := by
  obtain ⟨A', c', e, R⟩ := h.lrow D hz
  injection e with e1 e2 e3
  subst e1
  subst e3
  exact R
/-- What the laws hold behind the maker's Layout: block m is the maker, the layout l lies at A. -/
structure Ly (w wr : World) (m base M : Nat) (A : Option Addr) (c : Nat) (l : List El) : Prop where
  own : ROwn ER 37 wr base (.slice A l.length c) l
  kk : IsMk wr m M
  bel : Below w.heap.size w wr
  dw : Dor w
  vl : vlE [] l = 0
  ok : validE l = 0
  hm : m = w.heap.size
  lt : m < base
theorem Ly.dor {w wr : World} {m base M : Nat} {A : Option Addr} {c : Nat} {l : List El} (h : Ly w wr m base M A c l) : Dor wr := h.dw.below h.bel
theorem Ly.row {w wr : World} {m base M : Nat} {A : Option Addr} {c : Nat} {l : List El} (h : Ly w wr m base M A c l) : LRow wr A c l := lrow_of h.own h.dor (sz_of h.vl)
theorem Ly.par {w wr : World} {m base M : Nat} {A : Option Addr} {c : Nat} {l : List El} (h : Ly w wr m base M A c l) : Par l := Par.of h.vl
theorem Ly.moves {w a b : World} {m base M N : Nat} {A : Option Addr} {c : Nat} {l : List El} (h : Ly w a m base M A c l) (k : Moves m a b) (g : IsMk b m N) : Ly w b m base N A c l :=
  ⟨h.own.moves k h.lt, g, k.below h.bel (by rw [h.hm]; exact Nat.le_refl _) h.bel.size, h.dw, h.vl, h.ok, h.hm, h.lt⟩
theorem Ly.below {w a b : World} {m base M : Nat} {A : Option Addr} {c : Nat} {l : List El} (h : Ly w a m base M A c l) (k : Below a.heap.size a b) : Ly w b m base M A c l :=
  ⟨h.own.below k, h.kk.stays' k, h.bel.trans (k.mono h.bel.size), h.dw, h.vl, h.ok, h.hm, h.lt⟩
theorem Ly.alloc {w a : World} {m base M : Nat} {A : Option Addr} {c : Nat} {l : List El} (h : Ly w a m base M A c l) (o : Obj) : Ly w (a.alloc o) m base M A c l := h.below ((Below.refl _ _).alloc (Nat.le_refl _) _)
theorem Ly.drewN {w a : World} {m base M : Nat} {A : Option Addr} {c : Nat} {l : List El} (h : Ly w a m base M A c l) (n : Nat) : Ly w (a.drewN n) m base M A c l := h.below (bdn (Below.refl _ _))
/-- The maker's Layout, first call of a law. -/
def LawPost (w : World) (m M n : Nat) (e : Ending) (w' : World) : Prop := ∃ A c l, e = .returned (.slice A l.length c) ∧ (∃ base, Ly w w' m base M A c l) ∧ 1 ≤ l.length ∧ l.length ≤ 76
theorem law_layout (m n N : Nat) (w w1 : World) (D : Dor w) (hm : m = w.heap.size) (K : IsMk w1 m N) (B : Below w.heap.size w w1) (hn : n ≤ 12) (hN : N ≤ 10000000000) :
    Calls Tryd.prog 9 #[.pointer (some ⟨m, 0, none⟩), .int .i64 (n : Int)] w1 (LawPost w m (N + 19 + 36 * n) n) := by
  refine (mlayout_any m N n w1 K hN hn).mono ?_
  rintro e w2 ⟨v, l, rfl, O, HL, K2, V2⟩
  obtain ⟨hv, hvl, hl1, hl2⟩ := HL.valid hn
  obtain ⟨A, c, rfl, _⟩ := O.full
  exact ⟨A, c, l, rfl, ⟨w1.heap.size, O, K2, V2.below B (by rw [hm]; exact Nat.le_refl _) B.size, D, hvl, hv, hm, K.lt⟩, hl1, hl2⟩
end Go.Proofs.YteeoecegpnmafaaDoor
