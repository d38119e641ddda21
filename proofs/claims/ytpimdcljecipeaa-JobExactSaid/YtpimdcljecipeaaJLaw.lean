/-
  Stage 11: what the laws share.
-/
import Derived.Test.YtpimdcljecipeaaJJob
import Derived.Test.YtpimdcljecipeaaJRelF
set_option linter.unusedSimpArgs false
set_option linter.unusedVariables false
namespace Go.Proofs.Ytpimdcljecipeaa
open Go.RowKit Go.Lib

theorem valid_of {l : List It} {wt : Int} (hl : l.length ≤ 96) (hr : runM 0 l) (hw : 0 ≤ wt ∧ wt ≤ 12) : validR l wt = 0 := by
  unfold validR
  rw [if_neg (by omega), if_pos (btw_iff.2 hw)]
  exact runM_vw (Int.le_refl _) hr
theorem relE_ok {l : List It} {wt : Int} (hv : validR l wt = 0) {x y : Nat} (hx : x < l.length) (hy : y < l.length) : relE l wt (x : Int) (y : Int) = (rel l x y, 0) := by
  unfold relE
  rw [if_neg (fun g => g hv), if_pos ⟨btw_iff.2 (by omega), btw_iff.2 (by omega)⟩]
  rfl
/-- What holds behind a made job that has been boxed. -/
structure JSt (w wr : World) (b : Nat) (A : Option Addr) (c : Nat) (l : List It) (wt : Int) : Prop where
  box : JBox wr b A l.length c wt
  fz : ∀ j, wr.frozen? ⟨b, j, none⟩ = false
  row : IRow wr A l
  bel : Below w.heap.size w wr
  val : validR l wt = 0
  run : runM 0 l
  wt_ : 0 ≤ wt ∧ wt ≤ 12
theorem JSt.below {w a a' : World} {b c : Nat} {A : Option Addr} {l : List It} {wt : Int} (h : JSt w a b A c l wt) (k : Below a.heap.size a a') : JSt w a' b A c l wt :=
  ⟨h.box.below k h.box.lt, fun j => (k.frozen (p := ⟨b, j, none⟩) h.box.lt).trans (h.fz j), h.row.below k, h.bel.trans (k.mono h.bel.size), h.val, h.run, h.wt_⟩
theorem JSt.drewN {w a : World} {b c : Nat} {A : Option Addr} {l : List It} {wt : Int} (h : JSt w a b A c l wt) (n : Nat) : JSt w (a.drewN n) b A c l wt := h.below ⟨rfl, rfl, rfl, Nat.le_refl _, fun _ _ => rfl⟩
theorem JSt.ok {w a : World} {b c : Nat} {A : Option Addr} {l : List It} {wt : Int} (h : JSt w a b A c l wt) : BlkOk l := (valid_ok h.val).2.2
/-- The boxed job. -/
theorem JSt.new {w w1 w2 : World} {A : Option Addr} {c M : Nat} {l : List It} {wt : Int} {m : Nat} (hm : m = w.heap.size) (B1 : Below w.heap.size w w1) (K : IsMk w1 m M)
    (O : IOwn 44 w2 w1.heap.size (.slice A l.length c) l) (hl : l.length ≤ 96) (hr : runM 0 l) (hw : 0 ≤ wt ∧ wt ≤ 12) (V : Moves m w1 w2) :
    JSt w (w2.alloc (.cells #[.slice A l.length c, .int .i64 wt] 25)) w2.heap.size A c l wt := by
  have B2 : Below w.heap.size w w2 := V.below B1 (by rw [hm]; exact Nat.le_refl _) B1.size
  exact ⟨JBox.new _ rfl, fun j => frozen_new _ _ _ _ _ rfl, O.irow.below ((Below.refl _ _).alloc (Nat.le_refl _) _), B2.alloc B2.size _, valid_of hl hr hw, hr, hw⟩
end Go.Proofs.Ytpimdcljecipeaa
