/-
  Stage 6: a struct of the call's own that is written; the reader's wagon.
-/
import Derived.Test.YtjgeolfjhfdbmaaCNum
set_option linter.unusedSimpArgs false
set_option linter.unusedVariables false
namespace Go.Proofs.Ytjgeolfjhfdbmaa
open Go.RowKit

theorem loadVar_rec {α : Type} {R : Rec α} {T : TypeId} {d : TypeDesc} (hu : Try.prog.underlying T = some d) (hd : (match d with | .struct _ | .array _ _ => true | _ => false) = true) (hi : (Try.prog.info? T).map (·.size) = some R.m) {w : World} {b : Nat} {x : α} (h : RBlk R w b x) :
    (loadVar T ⟨b, 0, none⟩).run Try.prog w = .ok (.agg (R.cells x).toArray) w := by
  have hl : (loadCells ⟨b, 0, none⟩ (R.cells x).length).run Try.prog w = .ok (R.cells x).toArray w :=
    run_loadCells_list (P := Try.prog) w ⟨b, 0, none⟩ (R.cells x) (fun j v hv => by rw [add_own]; exact h.cs j v hv)
  rw [R.len] at hl
  cases hq : Try.prog.info? T with
  | none => rw [hq] at hi; cases hi
  | some i =>
    have hs : i.size = R.m := by simpa [hq] using hi
    have hagg : (isAgg T).run Try.prog w = .ok true w := by
      unfold isAgg
      rw [Sem.run_bind, run_underlying hu w]
      cases d <;> simp_all
    simp [loadVar, Sem.run_bind, hagg, sizeOf, typeInfo, hq, hs, hl]
theorem results_rec {α : Type} {R : Rec α} {fn : Func} {p : Tmp} {T : TypeId} {d : TypeDesc} (hf : fn.results = #[.cell p T]) (hu : Try.prog.underlying T = some d) (hd : (match d with | .struct _ | .array _ _ => true | _ => false) = true) (hi : (Try.prog.info? T).map (·.size) = some R.m) (tmps : Array Value) (w : World) (b : Nat) (x : α)
    (hp : tmps.getD p undef = .pointer (some ⟨b, 0, none⟩)) (h : RBlk R w b x) : (results fn tmps).run Try.prog w = .ok (.agg (R.cells x).toArray) w := by
  have hp' : tmps[p]?.getD undef = .pointer (some ⟨b, 0, none⟩) := by simpa using hp
  simp [results, hf, hp', asAddr, loadVar_rec hu hd hi h]
theorem infoW : (Try.prog.info? 30).map (·.size) = some WR.m := by kernel_rfl

/-- Block b holds a wagon, and may be written. -/
structure WLoc (w : World) (b : Nat) (x : Wag) : Prop where
  blk : RBlk WR w b x
  fz : ∀ j, w.frozen? ⟨b, j, none⟩ = false
theorem WLoc.moves {m : Nat} {w w' : World} {b : Nat} {x : Wag} (h : WLoc w b x) (k : Moves m w w') (hm : b ≠ m) : WLoc w' b x := ⟨h.blk.moves k hm, fun j => (k.frozen (p := ⟨b, j, none⟩) h.blk.lt hm).trans (h.fz j)⟩
theorem WLoc.below {w w' : World} {b : Nat} {x : Wag} (h : WLoc w b x) (k : Below w.heap.size w w') : WLoc w' b x := ⟨h.blk.below k, fun j => (k.frozen (p := ⟨b, j, none⟩) h.blk.lt).trans (h.fz j)⟩
theorem WLoc.alloc {w : World} {b : Nat} {x : Wag} (h : WLoc w b x) (o : Obj) : WLoc (w.alloc o) b x := h.below ((Below.refl _ _).alloc (Nat.le_refl _) _)
theorem WLoc.drewN {w : World} {b : Nat} {x : Wag} (h : WLoc w b x) (n : Nat) : WLoc (w.drewN n) b x := h.below ⟨rfl, rfl, rfl, Nat.le_refl _, fun _ _ => rfl⟩
theorem WLoc.new (w : World) (x : Wag) (T : TypeId) (b : Nat) (hb : b = w.heap.size) : WLoc (w.alloc (.cells #[.string x.num, .int .i64 x.len, .int .i64 x.axl, .int .i64 x.mas, .int .i64 x.brk, .int .i64 x.gds, .bool x.gen, .string x.dst] T)) b x := by
  refine ⟨newW w x T b hb, fun j => ?_⟩
  subst hb
  have e : (w.alloc (.cells #[.string x.num, .int .i64 x.len, .int .i64 x.axl, .int .i64 x.mas, .int .i64 x.brk, .int .i64 x.gds, .bool x.gen, .string x.dst] T)).heap[w.heap.size]? = some (.cells #[.string x.num, .int .i64 x.len, .int .i64 x.axl, .int .i64 x.mas, .int .i64 x.brk, .int .i64 x.gds, .bool x.gen, .string x.dst] T) := heap_alloc_new w _
  unfold World.frozen?
  rw [e]
  rfl
theorem WLoc.store {w : World} {b : Nat} {x y : Wag} {j : Nat} {u : Value} (h : WLoc w b x) (hy : cellsW y = (cellsW x).set j u) (hj : j < 8) : WLoc (w.setCell ⟨b, j, none⟩ u) b y := by
  refine ⟨⟨fun i v hi => ?_, by rw [World.size_setCell]; exact h.blk.lt⟩, fun i => by rw [World.frozen?_setCell]; exact h.fz i⟩
  have hi' : (cellsW y)[i]? = some v := hi
  rw [hy, List.getElem?_set] at hi'
  by_cases e : j = i
  · subst e
    rw [if_pos rfl] at hi'
    have hl : j < (cellsW x).length := hj
    rw [if_pos hl] at hi'
    injection hi' with hi'
    subst hi'
    exact World.cell?_setCell_same _ _ _ (h.blk.cs j _ (List.getElem?_eq_getElem hl))
  · rw [if_neg e] at hi'
    rw [World.cell?_setCell_other _ _ _ _ (ne_off e)]
    exact h.blk.cs i v hi'
theorem WLoc.other {w : World} {b : Nat} {x : Wag} (h : WLoc w b x) {p : Addr} (hp : p.block ≠ b) (u : Value) : WLoc (w.setCell p u) b x :=
  ⟨⟨fun i v hi => by rw [World.cell?_setCell_other _ _ _ _ (fun e => hp (congrArg Addr.block e))]; exact h.blk.cs i v hi, by rw [World.size_setCell]; exact h.blk.lt⟩, fun j => by rw [World.frozen?_setCell]; exact h.fz j⟩
/-- All of a wagon is written. -/
theorem WLoc.put {w : World} {b : Nat} {y : Wag} (h : WLoc w b y) (x : Wag) :
    WLoc ((((((((w.setCell ⟨b, 0, none⟩ (.string x.num)).setCell ⟨b, 1, none⟩ (.int .i64 x.len)).setCell ⟨b, 2, none⟩ (.int .i64 x.axl)).setCell ⟨b, 3, none⟩ (.int .i64 x.mas)).setCell ⟨b, 4, none⟩ (.int .i64 x.brk)).setCell ⟨b, 5, none⟩ (.int .i64 x.gds)).setCell ⟨b, 6, none⟩ (.bool x.gen)).setCell ⟨b, 7, none⟩ (.string x.dst)) b x :=
  ((((((((h.store (y := { y with num := x.num }) (j := 0) rfl (by decide)).store (y := { y with num := x.num, len := x.len }) (j := 1) rfl (by decide)).store (y := { y with num := x.num, len := x.len, axl := x.axl }) (j := 2) rfl (by decide)).store (y := { y with num := x.num, len := x.len, axl := x.axl, mas := x.mas }) (j := 3) rfl (by decide)).store (y := { x with gds := y.gds, gen := y.gen, dst := y.dst }) (j := 4) rfl (by decide)).store (y := { x with gen := y.gen, dst := y.dst }) (j := 5) rfl (by decide)).store (y := { x with dst := y.dst }) (j := 6) rfl (by decide)).store (y := x) (j := 7) rfl (by decide))
theorem Moves.put {m b : Nat} {w w' : World} {x : Wag} (h : Moves m w w') (hb : w.heap.size ≤ b) :
    Moves m w ((((((((w'.setCell ⟨b, 0, none⟩ (.string x.num)).setCell ⟨b, 1, none⟩ (.int .i64 x.len)).setCell ⟨b, 2, none⟩ (.int .i64 x.axl)).setCell ⟨b, 3, none⟩ (.int .i64 x.mas)).setCell ⟨b, 4, none⟩ (.int .i64 x.brk)).setCell ⟨b, 5, none⟩ (.int .i64 x.gds)).setCell ⟨b, 6, none⟩ (.bool x.gen)).setCell ⟨b, 7, none⟩ (.string x.dst)) :=
  (((((((h.setCell (p := ⟨b, 0, none⟩) (Or.inr hb) _).setCell (p := ⟨b, 1, none⟩) (Or.inr hb) _).setCell (p := ⟨b, 2, none⟩) (Or.inr hb) _).setCell (p := ⟨b, 3, none⟩) (Or.inr hb) _).setCell (p := ⟨b, 4, none⟩) (Or.inr hb) _).setCell (p := ⟨b, 5, none⟩) (Or.inr hb) _).setCell (p := ⟨b, 6, none⟩) (Or.inr hb) _).setCell (p := ⟨b, 7, none⟩) (Or.inr hb) _
theorem Rd.other {w : World} {p : Nat} {A : Option Addr} {c n : Nat} {bs : List Int} {s g : Bool} (h : Rd w p A c bs n s g) {q : Addr} (hq : p < q.block) (u : Value) : Rd (w.setCell q u) p A c bs n s g :=
  h.stays ((Below.refl _ _).setCell hq u)
theorem Rd.put {w : World} {p b : Nat} {A : Option Addr} {c n : Nat} {bs : List Int} {s g : Bool} (h : Rd w p A c bs n s g) (hb : p < b) (x : Wag) :
    Rd ((((((((w.setCell ⟨b, 0, none⟩ (.string x.num)).setCell ⟨b, 1, none⟩ (.int .i64 x.len)).setCell ⟨b, 2, none⟩ (.int .i64 x.axl)).setCell ⟨b, 3, none⟩ (.int .i64 x.mas)).setCell ⟨b, 4, none⟩ (.int .i64 x.brk)).setCell ⟨b, 5, none⟩ (.int .i64 x.gds)).setCell ⟨b, 6, none⟩ (.bool x.gen)).setCell ⟨b, 7, none⟩ (.string x.dst)) p A c bs n s g :=
  (((((((h.other (q := ⟨b, 0, none⟩) hb _).other (q := ⟨b, 1, none⟩) hb _).other (q := ⟨b, 2, none⟩) hb _).other (q := ⟨b, 3, none⟩) hb _).other (q := ⟨b, 4, none⟩) hb _).other (q := ⟨b, 5, none⟩) hb _).other (q := ⟨b, 6, none⟩) hb _).other (q := ⟨b, 7, none⟩) hb _

def wag0 : Wag := ⟨⟨#[]⟩, 0, 0, 0, 0, 0, false, ⟨#[]⟩⟩
/-- The places behind the parts of a wagon at n. -/
def rd1 (bs : List Int) (n : Nat) : Nat := tkN bs n 6
def rd2 (bs : List Int) (n : Nat) : Nat := tkN bs (rd1 bs n) 2
def rd3 (bs : List Int) (n : Nat) : Nat := tkN bs (rd2 bs n) 1
def rd4 (bs : List Int) (n : Nat) : Nat := tkN bs (rd3 bs n) 2
def rd5 (bs : List Int) (n : Nat) : Nat := tkN bs (rd4 bs n) 2
def rd6 (bs : List Int) (n : Nat) : Nat := tkN bs (rd5 bs n) 1
def rd7 (bs : List Int) (n : Nat) : Nat := tkN bs (rd6 bs n) 1
def rdN (bs : List Int) (n : Nat) : Nat := tkN bs (rd7 bs n) (sgV bs (rd6 bs n)).toNat
def rdS (bs : List Int) (n : Nat) (s : Bool) : Bool :=
  tkS bs (rd7 bs n) (sgV bs (rd6 bs n)).toNat (tkS bs (rd6 bs n) 1 (tkS bs (rd5 bs n) 1 (tkS bs (rd4 bs n) 2 (tkS bs (rd3 bs n) 2 (tkS bs (rd2 bs n) 1 (tkS bs (rd1 bs n) 2 (tkS bs n 6 s)))))))
def rdG (bs : List Int) (n : Nat) (g : Bool) : Bool := (g || nmG bs n) || decide (9 < gdV (sgV bs (rd5 bs n)))
def rdX (bs : List Int) (n : Nat) : Wag :=
  ⟨nmV bs n, prV bs (rd1 bs n), sgV bs (rd2 bs n), prV bs (rd3 bs n), prV bs (rd4 bs n), gdV (sgV bs (rd5 bs n)), decide (16 ≤ sgV bs (rd5 bs n)), strOfNums (tkV bs (rd7 bs n) (sgV bs (rd6 bs n)).toNat)⟩
def WgPost (p : Nat) (A : Option Addr) (c : Nat) (bs : List Int) (n : Nat) (s g : Bool) (w : World) (e : Ending) (w' : World) : Prop :=
  e = .returned (aggW (rdX bs n)) ∧ Rd w' p A c bs (rdN bs n) (rdS bs n s) (rdG bs n g) ∧ Moves p w w'
set_option maxHeartbeats 3200000 in
theorem wagon_any (p : Nat) (A : Option Addr) (c : Nat) (bs : List Int) (n : Nat) (s g : Bool) (w : World) (h : Rd w p A c bs n s g) :
    Calls Try.prog 49 #[.pointer (some ⟨p, 0, none⟩)] w (WgPost p A c bs n s g w) := by
  have lt := h.lt
  have HX := Lib.hid (show rdX bs n = ⟨nmV bs n, prV bs (rd1 bs n), sgV bs (rd2 bs n), prV bs (rd3 bs n), prV bs (rd4 bs n), gdV (sgV bs (rd5 bs n)), decide (16 ≤ sgV bs (rd5 bs n)), strOfNums (tkV bs (rd7 bs n) (sgV bs (rd6 bs n)).toNat)⟩ from rfl)
  obtain ⟨b, hb⟩ : ∃ b, b = w.heap.size := ⟨_, rfl⟩
  have R0 := Lib.hid (show Rd (boxW (boxW w wag0) wag0) p A c bs n s g from (h.alloc _).alloc _)
  have M0 := Lib.hid (show Moves p w (boxW (boxW w wag0) wag0) from ((Moves.refl p w).alloc _).alloc _)
  have L0 := Lib.hid (show WLoc (boxW (boxW w wag0) wag0) b wag0 from (WLoc.new w wag0 _ b hb).alloc _)
  have L1 := Lib.hid (show WLoc (boxW (boxW w wag0) wag0) (b + 1) wag0 from WLoc.new _ wag0 _ (b + 1) (by rw [World.size_alloc, hb]))
  have HB := Lib.hid hb
  have hbp : p < b := by omega
  have hbp1 : p < b + 1 := by omega
  have ne0 : b ≠ p := by omega
  have ne1 : b + 1 ≠ p := by omega
  have bb : (b + 1 : Nat) ≠ b := by omega
  have D1 : rd1 bs n = tkN bs n 6 := rfl
  have D2 : rd2 bs n = tkN bs (rd1 bs n) 2 := rfl
  have D3 : rd3 bs n = tkN bs (rd2 bs n) 1 := rfl
  have D4 : rd4 bs n = tkN bs (rd3 bs n) 2 := rfl
  have D5 : rd5 bs n = tkN bs (rd4 bs n) 2 := rfl
  have D6 : rd6 bs n = tkN bs (rd5 bs n) 1 := rfl
  have D7 : rd7 bs n = tkN bs (rd6 bs n) 1 := rfl
  have HBB := Lib.hid h.bd
  have HS := Lib.hid (show rdS bs n s = tkS bs (rd7 bs n) (sgV bs (rd6 bs n)).toNat (tkS bs (rd6 bs n) 1 (tkS bs (rd5 bs n) 1 (tkS bs (rd4 bs n) 2 (tkS bs (rd3 bs n) 2 (tkS bs (rd2 bs n) 1 (tkS bs (rd1 bs n) 2 (tkS bs n 6 s))))))) from rfl)
  have HN := Lib.hid (show rdN bs n = tkN bs (rd7 bs n) (sgV bs (rd6 bs n)).toNat from rfl)
  have HG := Lib.hid (show rdG bs n g = ((g || nmG bs n) || decide (9 < gdV (sgV bs (rd5 bs n)))) from rfl)
  clear h
  go_enter Try.func49, Try.ntmps49
  go_wp2_with fail
  refine (number_any p A c bs n s g _ R0.out).mono ?_
  rintro e w1 ⟨rfl, R1, M1⟩
  rw [← D1] at R1
  generalize rd1 bs n = n1 at *
  generalize nmV bs n = x0 at *
  have HR1 := Lib.hid R1
  have HM1 := Lib.hid (M0.out.trans M1)
  have HL0 := Lib.hid (L0.out.moves M1 ne0)
  have HL1 := Lib.hid (L1.out.moves M1 ne1)
  have f1 := HL1.out.fz
  have c0 := (WBlk.of HL1.out.blk).c0
  rw [← hb]
  have hwb : w.heap.size ≤ b + 1 := by omega
  have HWB := Lib.hid (show w.heap.size ≤ b by omega)
  clear R1 M1 D1 R0 M0 L0 L1 hb
  go_wp2_with fail
  have SR := Lib.hid (HR1.out.other (q := ⟨b + 1, 0, none⟩) hbp1 (.string x0))
  have SM := Lib.hid (HM1.out.setCell (p := ⟨b + 1, 0, none⟩) (Or.inr hwb) (.string x0))
  have SL0 := Lib.hid (HL0.out.other (p := ⟨b + 1, 0, none⟩) bb (.string x0))
  have SL1 := Lib.hid (HL1.out.store (y := { wag0 with num := x0 }) (j := 0) (u := .string x0) rfl (by decide))
  clear HR1 HM1 HL0 HL1 f1 c0
  refine (pair_any p A c bs n1 _ _ _ SR.out).mono ?_
  rintro e w2 ⟨rfl, R1, M1⟩
  rw [← D2] at R1
  generalize rd2 bs n = n2 at *
  obtain ⟨x1, hx⟩ : ∃ x, x = prV bs n1 := ⟨_, rfl⟩
  rw [← hx] at HX ⊢
  have HR2 := Lib.hid R1
  have HM2 := Lib.hid (SM.out.trans M1)
  have HL0 := Lib.hid (SL0.out.moves M1 ne0)
  have HL1 := Lib.hid (SL1.out.moves M1 ne1)
  have f1 := HL1.out.fz
  have c1 := (WBlk.of HL1.out.blk).c1
  clear R1 M1 D2 SR SM SL0 SL1 hx
  go_wp2_with fail
  have SR := Lib.hid (HR2.out.other (q := ⟨b + 1, 1, none⟩) hbp1 (.int .i64 x1))
  have SM := Lib.hid (HM2.out.setCell (p := ⟨b + 1, 1, none⟩) (Or.inr hwb) (.int .i64 x1))
  have SL0 := Lib.hid (HL0.out.other (p := ⟨b + 1, 1, none⟩) bb (.int .i64 x1))
  have SL1 := Lib.hid (HL1.out.store (y := { wag0 with num := x0, len := x1 }) (j := 1) (u := .int .i64 x1) rfl (by decide))
  clear HR2 HM2 HL0 HL1 f1 c1
  refine (single_any p A c bs n2 _ _ _ SR.out).mono ?_
  rintro e w3 ⟨rfl, R1, M1⟩
  rw [← D3] at R1
  generalize rd3 bs n = n3 at *
  obtain ⟨x2, hx⟩ : ∃ x, x = sgV bs n2 := ⟨_, rfl⟩
  rw [← hx] at HX ⊢
  have HR3 := Lib.hid R1
  have HM3 := Lib.hid (SM.out.trans M1)
  have HL0 := Lib.hid (SL0.out.moves M1 ne0)
  have HL1 := Lib.hid (SL1.out.moves M1 ne1)
  have f1 := HL1.out.fz
  have c2 := (WBlk.of HL1.out.blk).c2
  clear R1 M1 D3 SR SM SL0 SL1 hx
  go_wp2_with fail
  have SR := Lib.hid (HR3.out.other (q := ⟨b + 1, 2, none⟩) hbp1 (.int .i64 x2))
  have SM := Lib.hid (HM3.out.setCell (p := ⟨b + 1, 2, none⟩) (Or.inr hwb) (.int .i64 x2))
  have SL0 := Lib.hid (HL0.out.other (p := ⟨b + 1, 2, none⟩) bb (.int .i64 x2))
  have SL1 := Lib.hid (HL1.out.store (y := { wag0 with num := x0, len := x1, axl := x2 }) (j := 2) (u := .int .i64 x2) rfl (by decide))
  clear HR3 HM3 HL0 HL1 f1 c2
  refine (pair_any p A c bs n3 _ _ _ SR.out).mono ?_
  rintro e w4 ⟨rfl, R1, M1⟩
  rw [← D4] at R1
  generalize rd4 bs n = n4 at *
  obtain ⟨x3, hx⟩ : ∃ x, x = prV bs n3 := ⟨_, rfl⟩
  rw [← hx] at HX ⊢
  have HR4 := Lib.hid R1
  have HM4 := Lib.hid (SM.out.trans M1)
  have HL0 := Lib.hid (SL0.out.moves M1 ne0)
  have HL1 := Lib.hid (SL1.out.moves M1 ne1)
  have f1 := HL1.out.fz
  have c3 := (WBlk.of HL1.out.blk).c3
  clear R1 M1 D4 SR SM SL0 SL1 hx
  go_wp2_with fail
  have SR := Lib.hid (HR4.out.other (q := ⟨b + 1, 3, none⟩) hbp1 (.int .i64 x3))
  have SM := Lib.hid (HM4.out.setCell (p := ⟨b + 1, 3, none⟩) (Or.inr hwb) (.int .i64 x3))
  have SL0 := Lib.hid (HL0.out.other (p := ⟨b + 1, 3, none⟩) bb (.int .i64 x3))
  have SL1 := Lib.hid (HL1.out.store (y := { wag0 with num := x0, len := x1, axl := x2, mas := x3 }) (j := 3) (u := .int .i64 x3) rfl (by decide))
  clear HR4 HM4 HL0 HL1 f1 c3
  refine (pair_any p A c bs n4 _ _ _ SR.out).mono ?_
  rintro e w5 ⟨rfl, R1, M1⟩
  rw [← D5] at R1
  generalize rd5 bs n = n5 at *
  obtain ⟨x4, hx⟩ : ∃ x, x = prV bs n4 := ⟨_, rfl⟩
  rw [← hx] at HX ⊢
  have HR5 := Lib.hid R1
  have HM5 := Lib.hid (SM.out.trans M1)
  have HL0 := Lib.hid (SL0.out.moves M1 ne0)
  have HL1 := Lib.hid (SL1.out.moves M1 ne1)
  have f1 := HL1.out.fz
  have c4 := (WBlk.of HL1.out.blk).c4
  clear R1 M1 D5 SR SM SL0 SL1 hx
  go_wp2_with fail
  have SR := Lib.hid (HR5.out.other (q := ⟨b + 1, 4, none⟩) hbp1 (.int .i64 x4))
  have SM := Lib.hid (HM5.out.setCell (p := ⟨b + 1, 4, none⟩) (Or.inr hwb) (.int .i64 x4))
  have SL0 := Lib.hid (HL0.out.other (p := ⟨b + 1, 4, none⟩) bb (.int .i64 x4))
  have SL1 := Lib.hid (HL1.out.store (y := { wag0 with num := x0, len := x1, axl := x2, mas := x3, brk := x4 }) (j := 4) (u := .int .i64 x4) rfl (by decide))
  clear HR5 HM5 HL0 HL1 f1 c4
  refine (goods_any p A c bs n5 _ _ _ SR.out).mono ?_
  rintro e w6 ⟨rfl, R1, M1⟩
  rw [← D6] at R1
  generalize rd6 bs n = n6 at *
  obtain ⟨x6, hx6⟩ : ∃ x, x = decide (16 ≤ sgV bs n5) := ⟨_, rfl⟩
  obtain ⟨x5, hx5⟩ : ∃ x, x = gdV (sgV bs n5) := ⟨_, rfl⟩
  rw [← hx6, ← hx5] at HX ⊢
  rw [← hx5] at R1 HG
  have HR6 := Lib.hid R1
  have HM6 := Lib.hid (SM.out.trans M1)
  have HL0 := Lib.hid (SL0.out.moves M1 ne0)
  have HL1 := Lib.hid (SL1.out.moves M1 ne1)
  have f1 := HL1.out.fz
  have c5 := (WBlk.of HL1.out.blk).c5
  have c6 := (WBlk.of HL1.out.blk).c6
  clear R1 M1 D6 SR SM SL0 SL1 hx6 hx5
  go_wp2_with fail
  have SR := Lib.hid ((HR6.out.other (q := ⟨b + 1, 5, none⟩) hbp1 (.int .i64 x5)).other (q := ⟨b + 1, 6, none⟩) hbp1 (.bool x6))
  have SM := Lib.hid ((HM6.out.setCell (p := ⟨b + 1, 5, none⟩) (Or.inr hwb) (.int .i64 x5)).setCell (p := ⟨b + 1, 6, none⟩) (Or.inr hwb) (.bool x6))
  have SL0 := Lib.hid ((HL0.out.other (p := ⟨b + 1, 5, none⟩) bb (.int .i64 x5)).other (p := ⟨b + 1, 6, none⟩) bb (.bool x6))
  have SL1 := Lib.hid ((HL1.out.store (y := { wag0 with num := x0, len := x1, axl := x2, mas := x3, brk := x4, gds := x5 }) (j := 5) (u := .int .i64 x5) rfl (by decide)).store (y := { wag0 with num := x0, len := x1, axl := x2, mas := x3, brk := x4, gds := x5, gen := x6 }) (j := 6) (u := .bool x6) rfl (by decide))
  clear HR6 HM6 HL0 HL1 f1 c5 c6
  refine (single_any p A c bs n6 _ _ _ SR.out).mono ?_
  rintro e w7 ⟨rfl, R1, M1⟩
  rw [← D7] at R1
  generalize rd7 bs n = n7 at *
  obtain ⟨kb0, kb1⟩ := sgV_bd HBB.out n6
  obtain ⟨k, hk⟩ : ∃ k : Nat, k = (sgV bs n6).toNat := ⟨_, rfl⟩
  have hk2 : sgV bs n6 = (k : Int) := by omega
  have hk3 : k ≤ 1000 := by omega
  rw [← hk] at HX HS HN
  rw [hk2]
  have HR7 := Lib.hid R1
  have HM7 := Lib.hid (SM.out.trans M1)
  have HL0 := Lib.hid (SL0.out.moves M1 ne0)
  have HL1 := Lib.hid (SL1.out.moves M1 ne1)
  clear R1 M1 D7 SR SM SL0 SL1 hk hk2 kb0 kb1
  go_wp2_with fail
  refine (take_any p A c bs n7 k _ _ _ HR7.out hk3).mono ?_
  rintro e w8 ⟨A', c', rfl, RN, R1, M1⟩
  rw [← HN.out] at R1
  obtain ⟨x7, hx7⟩ : ∃ x, x = strOfNums (tkV bs n7 k) := ⟨_, rfl⟩
  have hcv := conv_row w8 (A := A') (c := c') (zs := tkV bs n7 k) (fun j hj => by obtain ⟨ad, e, _, _, h⟩ := RN j hj; exact ⟨ad, e, h⟩) k tkV_len.symm
  rw [← hx7] at HX hcv
  have HR8 := Lib.hid R1
  have HM8 := Lib.hid (HM7.out.trans M1)
  have HL0' := Lib.hid (HL0.out.moves M1 ne0)
  have HL1' := Lib.hid ((HL1.out.moves M1 ne1).store (y := { wag0 with num := x0, len := x1, axl := x2, mas := x3, brk := x4, gds := x5, gen := x6, dst := x7 }) (j := 7) (u := .string x7) rfl (by decide))
  have f1 := (HL1.out.moves M1 ne1).fz
  have g1 := HL0'.out.fz
  obtain ⟨c0, c1, c2, c3, c4, c5, c6, c7, _⟩ := WBlk.of (HL1.out.moves M1 ne1).blk
  obtain ⟨e0, e1, e2, e3, e4, e5, e6, e7, _⟩ := WBlk.of (HL0'.out.other (p := ⟨b + 1, 7, none⟩) bb (.string x7)).blk
  obtain ⟨d0, d1, d2, d3, d4, d5, d6, d7, _⟩ := WBlk.of HL1'.out.blk
  clear RN R1 M1 hx7 HR7 HM7 HL0 HL1
  go_wp2_with fail
  have LF := Lib.hid ((HL0'.out.other (p := ⟨b + 1, 7, none⟩) bb (.string x7)).put ⟨x0, x1, x2, x3, x4, x5, x6, x7⟩)
  have MF := Lib.hid ((HM8.out.setCell (p := ⟨b + 1, 7, none⟩) (Or.inr hwb) (.string x7)).put (x := ⟨x0, x1, x2, x3, x4, x5, x6, x7⟩) HWB.out)
  have RF := Lib.hid ((HR8.out.other (q := ⟨b + 1, 7, none⟩) hbp1 (.string x7)).put hbp ⟨x0, x1, x2, x3, x4, x5, x6, x7⟩)
  clear c0 c1 c2 c3 c4 c5 c6 c7 d0 d1 d2 d3 d4 d5 d6 d7 e0 e1 e2 e3 e4 e5 e6 e7
  refine bodyPost_ret (results_rec (R := WR) rfl Try.underlying30 rfl infoW _ _ b ⟨x0, x1, x2, x3, x4, x5, x6, x7⟩ rfl LF.out.blk) rfl ?_
  refine ⟨by rw [HX.out]; rfl, ?_, MF.out⟩
  rw [HS.out, HG.out]
  exact RF.out
end Go.Proofs.Ytjgeolfjhfdbmaa
