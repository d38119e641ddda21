/-
  Stage 6: a struct of the call's own that is written; the reader's wagon.
-/
import Derived.Test.YtgiodpepjajlmaaCNum
set_option linter.unusedSimpArgs false
set_option linter.unusedVariables false
namespace Go.Proofs.Ytgiodpepjajlmaa
open Go.RowKit

theorem loadVar_rec {α : Type} {R : Rec α} {T : TypeId} {d : TypeDesc} (hu : Try.prog.underlying T = some d) (hd : (match d with | .struct _ | .array _ _ => true | _ => false) = true) (hi : (Try.prog.info? T).map (·.size) = some R.m) {w : World} {b : Nat} {x : α} (h : RBlk R w b x) :
    (loadVar T ⟨b, 0, none⟩).run Try.prog w = .ok (.agg (R.cells x).toArray) w := by
  have hl : (loadCells ⟨b, 0, none⟩ (R.cells x).length).run Try.prog w = .ok (R.cells x).toArray w :=
    run_loadCells_list (P := Try.prog) w ⟨b, 0, none⟩ (R.cells x) (fun j v hv => by rw [add_own]; exact h.cs j v hv)
  rw [R.len] at hl
  cases hq : Try.prog.info? T with
  | none => rw [hq] at hi; cases hi
  | some i =>
    have hs : i.size = R.m := by simpa [hq] using hi
    have hagg : (isAgg T).run Try.prog w = .ok true w := by
      unfold isAgg
      rw [Sem.run_bind, run_underlying hu w]
      cases d <;> simp_all
    simp [loadVar, Sem.run_bind, hagg, sizeOf, typeInfo, hq, hs, hl]
theorem results_rec {α : Type} {R : Rec α} {fn : Func} {p : Tmp} {T : TypeId} {d : TypeDesc} (hf : fn.results = #[.cell p T]) (hu : Try.prog.underlying T = some d) (hd : (match d with | .struct _ | .array _ _ => true | _ => false) = true) (hi : (Try.prog.info? T).map (·.size) = some R.m) (tmps : Array Value) (w : World) (b : Nat) (x : α)
    (hp : tmps.getD p undef = .pointer (some ⟨b, 0, none⟩)) (h : RBlk R w b x) : (results fn tmps).run Try.prog w = .ok (.agg (R.cells x).toArray) w := by
  have hp' : tmps[p]?.getD undef = .pointer (some ⟨b, 0, none⟩) := by simpa using hp
  simp [results, hf, hp', asAddr, loadVar_rec hu hd hi h]
theorem infoW : (Try.prog.info? 30).map (·.size) = some WR.m := by kernel_rfl

/-- Block b holds a wagon, and may be written. -/
structure WLoc (w : World) (b : Nat) (x : Wag) : Prop where
  blk : RBlk WR w b x
  fz : ∀ j, w.frozen? ⟨b, j, none⟩ = false
theorem WLoc.moves {m : Nat} {w w' : World} {b : Nat} {x : Wag} (h : WLoc w b x) (k : Moves m w w') (hm : b ≠ m) : WLoc w' b x := ⟨h.blk.moves k hm, fun j => (k.frozen (p := ⟨b, j, none⟩) h.blk.lt hm).trans (h.fz j)⟩
theorem WLoc.below {w w' : World} {b : Nat} {x : Wag} (h : WLoc w b x) (k : Below w.heap.size w w') : WLoc w' b x := ⟨h.blk.below k, fun j => (k.frozen (p := ⟨b, j, none⟩) h.blk.lt).trans (h.fz j)⟩
theorem WLoc.alloc {w : World} {b : Nat} {x : Wag} (h : WLoc w b x) (o : Obj) : WLoc (w.alloc o) b x := h.below ((Below.refl _ _).alloc (Nat.le_refl _) _)
theorem WLoc.drewN {w : World} {b : Nat} {x : Wag} (h : WLoc w b x) (n : Nat) : WLoc (w.drewN n) b x := h.below ⟨rfl, rfl, rfl, Nat.le_refl _, fun _ _ => rfl⟩
theorem WLoc.new (w : World) (x : Wag) (T : TypeId) (b : Nat) (hb : b = w.heap.size) : WLoc (w.alloc (.cells #[.string x.num, .int .i64 x.len, .int .i64 x.axl, .int .i64 x.mas, .int .i64 x.brk, .int .i64 x.gds, .bool x.gen, .string x.dst] T)) b x := by
  refine ⟨newW w x T b hb, fun j => ?_⟩
  subst hb
  have e : (w.alloc (.cells #[.string x.num, .int .i64 x.len, .int .i64 x.axl, .int .i64 x.mas, .int .i64 x.brk, .int .i64 x.gds, .bool x.gen, .string x.dst] T)).heap[w.heap.size]? = some (.cells #[.string x.num, .int .i64 x.len, .int .i64 x.axl, .int .i64 x.mas, .int .i64 x.brk, .int .i64 x.gds, .bool x.gen, .string x.dst] T) := heap_alloc_new w _
  unfold World.frozen?
  rw [e]
  rfl
theorem WLoc.store {w : World} {b : Nat} {x y : Wag} {j : Nat} {u : Value} (h : WLoc w b x) (hy : cellsW y = (cellsW x).set j u) (hj : j < 8) : WLoc (w.setCell ⟨b, j, none⟩ u) b y := by
  refine ⟨⟨fun i v hi => ?_, by rw [World.size_setCell]; exact h.blk.lt⟩, fun i => by rw [World.frozen?_setCell]; exact h.fz i⟩
  have hi' : (cellsW y)[i]? = some v := hi
  rw [hy, List.getElem?_set] at hi'
  by_cases e : j = i
  · subst e
    rw [if_pos rfl] at hi'
    have hl : j < (cellsW x).length := hj
    rw [if_pos hl] at hi'
    injection hi' with hi'
    subst hi'
    exact World.cell?_setCell_same _ _ _ (h.blk.cs j _ (List.getElem?_eq_getElem hl))
  · rw [if_neg e] at hi'
    rw [World.cell?_setCell_other _ _ _ _ (ne_off e)]
    exact h.blk.cs i v hi'
theorem WLoc.other {w : World} {b : Nat} {x : Wag} (h : WLoc w b x) {p : Addr} (hp : p.block ≠ b) (u : Value) : WLoc (w.setCell p u) b x :=
  ⟨⟨fun i v hi => by rw [World.cell?_setCell_other _ _ _ _ (fun e => hp (congrArg Addr.block e))]; exact h.blk.cs i v hi, by rw [World.size_setCell]; exact h.blk.lt⟩, fun j => by rw [World.frozen?_setCell]; exact h.fz j⟩
/-- All of a wagon is written. -/
theorem WLoc.put {w : World} {b : Nat} {y : Wag} (h : WLoc w b y) (x : Wag) :
    WLoc ((((((((w.setCell ⟨b, 0, none⟩ (.string x.num)).setCell ⟨b, 1, none⟩ (.int .i64 x.len)).setCell ⟨b, 2, none⟩ (.int .i64 x.axl)).setCell ⟨b, 3, none⟩ (.int .i64 x.mas)).setCell ⟨b, 4, none⟩ (.int .i64 x.brk)).setCell ⟨b, 5, none⟩ (.int .i64 x.gds)).setCell ⟨b, 6, none⟩ (.bool x.gen)).setCell ⟨b, 7, none⟩ (.string x.dst)) b x :=
  ((((((((h.store (y := { y with num := x.num }) (j := 0) rfl (by decide)).store (y := { y with num := x.num, len := x.len }) (j := 1) rfl (by decide)).store (y := { y with num := x.num, len := x.len, axl := x.axl }) (j := 2) rfl (by decide)).store (y := { y with num := x.num, len := x.len, axl := x.axl, mas := x.mas }) (j := 3) rfl (by decide)).store (y := { x with gds := y.gds, gen := y.gen, dst := y.dst }) (j := 4) rfl (by decide)).store (y := { x with gen := y.gen, dst := y.dst }) (j := 5) rfl (by decide)).store (y := { x with dst := y.dst }) (j := 6) rfl (by decide)).store (y := x) (j := 7) rfl (by decide))
theorem Moves.put {m b : Nat} {w w' : World} {x : Wag} (h : Moves m w w') (hb : w.heap.size ≤ b) :
    Moves m w ((((((((w'.setCell ⟨b, 0, none⟩ (.string x.num)).setCell ⟨b, 1, none⟩ (.int .i64 x.len)).setCell ⟨b, 2, none⟩ (.int .i64 x.axl)).setCell ⟨b, 3, none⟩ (.int .i64 x.mas)).setCell ⟨b, 4, none⟩ (.int .i64 x.brk)).setCell ⟨b, 5, none⟩ (.int .i64 x.gds)).setCell ⟨b, 6, none⟩ (.bool x.gen)).setCell ⟨b, 7, none⟩ (.string x.dst)) :=
  (((((((h.setCell (p := ⟨b, 0, none⟩) (Or.inr hb) _).setCell (p := ⟨b, 1, none⟩) (Or.inr hb) _).setCell (p := ⟨b, 2, none⟩) (Or.inr hb) _).setCell (p := ⟨b, 3, none⟩) (Or.inr hb) _).setCell (p := ⟨b, 4, none⟩) (Or.inr hb) _).setCell (p := ⟨b, 5, none⟩) (Or.inr hb) _).setCell (p := ⟨b, 6, none⟩) (Or.inr hb) _).setCell (p := ⟨b, 7, none⟩) (Or.inr hb) _
theorem Rd.other {w : World} {p : Nat} {A : Option Addr} {c n : Nat} {bs : List Int} {s g : Bool} (h : Rd w p A c bs n s g) {q : Addr} (hq : p < q.block) (u : Value) : Rd (w.setCell q u) p A c bs n s g :=
  h.stays ((Below.refl _ _).setCell hq u)
theorem Rd.put {w : World} {p b : Nat} {A : Option Addr} {c n : Nat} {bs : List Int} {s g : Bool} (h : Rd w p A c bs n s g) (hb : p < b) (x : Wag) :
    Rd ((((((((w.setCell ⟨b, 0, none⟩ (.string x.num)).setCell ⟨b, 1, none⟩ (.int .i64 x.len)).setCell ⟨b, 2, none⟩ (.int .i64 x.axl)).setCell ⟨b, 3, none⟩ (.int .i64 x.mas)).setCell ⟨b, 4, none⟩ (.int .i64 x.brk)).setCell ⟨b, 5, none⟩ (.int .i64 x.gds)).setCell ⟨b, 6, none⟩ (.bool x.gen)).setCell ⟨b, 7, none⟩ (.string x.dst)) p A c bs n s g :=
  (((((((h.other (q := ⟨b, 0, none⟩) hb _).other (q := ⟨b, 1, none⟩) hb _).other (q := ⟨b, 2, none⟩) hb _).other (q := ⟨b, 3, none⟩) hb _).other (q := ⟨b, 4, none⟩) hb _).other (q := ⟨b, 5, none⟩) hb _).other (q := ⟨b, 6, none⟩) hb _).other (q := ⟨b, 7, none⟩) hb _

def wag0 : Wag := ⟨⟨#[]⟩, 0, 0, 0, 0, 0, false, ⟨#[]⟩⟩
/-- The places behind the parts of a wagon at n. -/
def rd1 (bs : List Int) (n : Nat) : Nat := tkN bs n 6
def rd2 (bs : List Int) (n : Nat) : Nat := tkN bs (rd1 bs n) 2
def rd3 (bs : List Int) (n : Nat) : Nat := tkN bs (rd2 bs n) 1
def rd4 (bs : List Int) (n : Nat) : Nat := tkN bs (rd3 bs n) 2
def rd5 (bs : List Int) (n : Nat) : Nat := tkN bs (rd4 bs n) 2
def rd6 (bs : List Int) (n : Nat) : Nat := tkN bs (rd5 bs n) 1
def rd7 (bs : List Int) (n : Nat) : Nat := tkN bs (rd6 bs n) 1
def rdN (bs : List Int) (n : Nat) : Nat := tkN bs (rd7 bs n) (sgV bs (rd6 bs n)).toNat
def rdS (bs : List Int) (n : Nat) (s : Bool) : Bool :=
  tkS bs (rd7 bs n) (sgV bs (rd6 bs n)).toNat (tkS bs (rd6 bs n) 1 (tkS bs (rd5 bs n) 1 (tkS bs (rd4 bs n) 2 (tkS bs (rd3 bs n) 2 (tkS bs (rd2 bs n) 1 (tkS bs (rd1 bs n) 2 (tkS bs n 6 s)))))))
def rdG (bs : List Int) (n : Nat) (g : Bool) : Bool := (g || nmG bs n) || decide (9 < gdV (sgV bs (rd5 bs n)))
def rdX (bs : List Int) (n : Nat) : Wag :=
  ⟨nmV bs n, prV bs (rd1 bs n), sgV bs (rd2 bs n), prV bs (rd3 bs n), prV bs (rd4 bs n), gdV (sgV bs (rd5 bs n)), decide (16 ≤ sgV bs (rd5 bs n)), strOfNums (tkV bs (rd7 bs n) (sgV bs (rd6 bs n)).toNat)⟩
def WgPost (p : Nat) (A : Option Addr) (c : Nat) (bs : List Int) (n : Nat) (s g : Bool) (w : World) (e : Ending) (w' : World) : Prop :=
  e = .returned (aggW (rdX bs n)) ∧ Rd w' p A c bs (rdN bs n) (rdS bs n s) (rdG bs n g) ∧ Moves p w w'
end Go.Proofs.Ytgiodpepjajlmaa
