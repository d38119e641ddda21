/-
  Stage 10: the maker's word; a struct of the call's own that may be written.
-/
import Derived.Test.YtdoifaifhikkjaaGreatDoorTLay
import Derived.Test.YtdoifaifhikkjaaGreatDoorMkPick
import Derived.Test.YtdoifaifhikkjaaGreatDoorLoc
import Derived.Laws.MakeOwn
import Derived.Laws.BytesArg
set_option linter.unusedSimpArgs false
set_option linter.unusedVariables false
namespace Go.Proofs.YtdoifaifhikkjaaGreatDoor
open Go.RowKit

section
variable {α : Type} {R : Rec α}
/-- Block b holds the struct x, and may be written. -/
structure RLoc (R : Rec α) (w : World) (b : Nat) (x : α) : Prop where
  blk : RBlk R w b x
  fz : ∀ j, w.frozen? ⟨b, j, none⟩ = false
theorem RLoc.moves {m : Nat} {w w' : World} {b : Nat} {x : α} (h : RLoc R w b x) (k : Moves m w w') (hm : b ≠ m) : RLoc R w' b x := ⟨h.blk.moves k hm, fun j => (k.frozen (p := ⟨b, j, none⟩) h.blk.lt hm).trans (h.fz j)⟩
theorem RLoc.below {w w' : World} {b : Nat} {x : α} (h : RLoc R w b x) (k : Below w.heap.size w w') : RLoc R w' b x := ⟨h.blk.below k, fun j => (k.frozen (p := ⟨b, j, none⟩) h.blk.lt).trans (h.fz j)⟩
theorem RLoc.alloc {w : World} {b : Nat} {x : α} (h : RLoc R w b x) (o : Obj) : RLoc R (w.alloc o) b x := h.below ((Below.refl _ _).alloc (Nat.le_refl _) _)
theorem RLoc.drewN {w : World} {b : Nat} {x : α} (h : RLoc R w b x) (n : Nat) : RLoc R (w.drewN n) b x := h.below ⟨rfl, rfl, rfl, Nat.le_refl _, fun _ _ => rfl⟩
theorem RLoc.drew {w : World} {b : Nat} {x : α} (h : RLoc R w b x) : RLoc R w.drew b x := h.below ⟨rfl, rfl, rfl, Nat.le_refl _, fun _ _ => rfl⟩
theorem RLoc.new (w : World) (x : α) (T : TypeId) (b : Nat) (hb : b = w.heap.size) : RLoc R (w.alloc (.cells (R.cells x).toArray T)) b x := by
  refine ⟨RBlk.new (R := R) b hb, fun j => ?_⟩
  subst hb
  have e : (w.alloc (.cells (R.cells x).toArray T)).heap[w.heap.size]? = some (.cells (R.cells x).toArray T) := heap_alloc_new w _
  unfold World.frozen?
  rw [e]
  rfl
theorem RLoc.store {w : World} {b : Nat} {x y : α} {j : Nat} {u : Value} (h : RLoc R w b x) (hy : R.cells y = (R.cells x).set j u) (hj : j < (R.cells x).length) : RLoc R (w.setCell ⟨b, j, none⟩ u) b y := by
  refine ⟨⟨fun i v hi => ?_, by rw [World.size_setCell]; exact h.blk.lt⟩, fun i => by rw [World.frozen?_setCell]; exact h.fz i⟩
  rw [hy, List.getElem?_set] at hi
  by_cases e : j = i
  · subst e
    rw [if_pos rfl, if_pos hj] at hi
    injection hi with hi
    subst hi
    exact World.cell?_setCell_same _ _ _ (h.blk.cs j _ (List.getElem?_eq_getElem hj))
  · rw [if_neg e] at hi
    rw [World.cell?_setCell_other _ _ _ _ (fun k => e (congrArg Addr.off k))]
    exact h.blk.cs i v hi
theorem RLoc.other {w : World} {b : Nat} {x : α} (h : RLoc R w b x) {p : Addr} (hp : p.block ≠ b) (u : Value) : RLoc R (w.setCell p u) b x :=
  ⟨⟨fun i v hi => by rw [World.cell?_setCell_other _ _ _ _ (fun e => hp (congrArg Addr.block e))]; exact h.blk.cs i v hi, by rw [World.size_setCell]; exact h.blk.lt⟩, fun j => by rw [World.frozen?_setCell]; exact h.fz j⟩
end
abbrev objE (x : El) : Obj := .cells #[.int .i64 x.kind, .string x.name, .int .i64 x.par, .int .i64 x.side, .int .i64 x.len, .int .i64 x.gra, .int .i64 x.cur, .int .i64 x.pow] 39
theorem locE (w : World) (x : El) (b : Nat) (hb : b = w.heap.size) : RLoc ER (w.alloc (objE x)) b x := RLoc.new (R := ER) w x _ b hb

/-- All of an element is written. -/
abbrev putW (w : World) (b : Nat) (x : El) : World := (((((((w.setCell ⟨b, 0, none⟩ (.int .i64 x.kind)).setCell ⟨b, 1, none⟩ (.string x.name)).setCell ⟨b, 2, none⟩ (.int .i64 x.par)).setCell ⟨b, 3, none⟩ (.int .i64 x.side)).setCell ⟨b, 4, none⟩ (.int .i64 x.len)).setCell ⟨b, 5, none⟩ (.int .i64 x.gra)).setCell ⟨b, 6, none⟩ (.int .i64 x.cur)).setCell ⟨b, 7, none⟩ (.int .i64 x.pow)
theorem lt8 {x : El} {j : Nat} (h : j < 8) : j < (ER.cells x).length := h
theorem RLoc.putE {w : World} {b : Nat} {y : El} (h : RLoc ER w b y) (x : El) : RLoc ER (putW w b x) b x :=
  ((((((((h.store (y := { y with kind := x.kind }) (j := 0) rfl (lt8 (by decide))).store (y := { y with kind := x.kind, name := x.name }) (j := 1) rfl (lt8 (by decide))).store (y := { y with kind := x.kind, name := x.name, par := x.par }) (j := 2) rfl (lt8 (by decide))).store (y := { y with kind := x.kind, name := x.name, par := x.par, side := x.side }) (j := 3) rfl (lt8 (by decide))).store (y := { x with gra := y.gra, cur := y.cur, pow := y.pow }) (j := 4) rfl (lt8 (by decide))).store (y := { x with cur := y.cur, pow := y.pow }) (j := 5) rfl (lt8 (by decide))).store (y := { x with pow := y.pow }) (j := 6) rfl (lt8 (by decide))).store (y := x) (j := 7) rfl (lt8 (by decide)))
theorem Moves.putE {m b : Nat} {w w' : World} {x : El} (h : Moves m w w') (hb : w.heap.size ≤ b) : Moves m w (putW w' b x) :=
  (((((((h.setCell (p := ⟨b, 0, none⟩) (Or.inr hb) _).setCell (p := ⟨b, 1, none⟩) (Or.inr hb) _).setCell (p := ⟨b, 2, none⟩) (Or.inr hb) _).setCell (p := ⟨b, 3, none⟩) (Or.inr hb) _).setCell (p := ⟨b, 4, none⟩) (Or.inr hb) _).setCell (p := ⟨b, 5, none⟩) (Or.inr hb) _).setCell (p := ⟨b, 6, none⟩) (Or.inr hb) _).setCell (p := ⟨b, 7, none⟩) (Or.inr hb) _
theorem IsMk.putE {m N b : Nat} {w : World} {x : El} (h : IsMk w m N) (hb : m < b) : IsMk (putW w b x) m N :=
  (((((((h.setCell (p := ⟨b, 0, none⟩) hb _).setCell (p := ⟨b, 1, none⟩) hb _).setCell (p := ⟨b, 2, none⟩) hb _).setCell (p := ⟨b, 3, none⟩) hb _).setCell (p := ⟨b, 4, none⟩) hb _).setCell (p := ⟨b, 5, none⟩) hb _).setCell (p := ⟨b, 6, none⟩) hb _).setCell (p := ⟨b, 7, none⟩) hb _

theorem loadVar_rc {α : Type} {R : Rec α} {T : TypeId} {d : TypeDesc} (hu : Tryz.prog.underlying T = some d) (hd : (match d with | .struct _ | .array _ _ => true | _ => false) = true) (hi : (Tryz.prog.info? T).map (·.size) = some R.m) {w : World} {b : Nat} {x : α} (h : RBlk R w b x) :
    (loadVar T ⟨b, 0, none⟩).run Tryz.prog w = .ok (.agg (R.cells x).toArray) w := by
  have hl : (loadCells ⟨b, 0, none⟩ (R.cells x).length).run Tryz.prog w = .ok (R.cells x).toArray w :=
    run_loadCells_list (P := Tryz.prog) w ⟨b, 0, none⟩ (R.cells x) (fun j v hv => by rw [add_own]; exact h.cs j v hv)
  rw [R.len] at hl
  cases hq : Tryz.prog.info? T with
  | none => rw [hq] at hi; cases hi
  | some i =>
    have hs : i.size = R.m := by simpa [hq] using hi
    have hagg : (isAgg T).run Tryz.prog w = .ok true w := by
      unfold isAgg
      rw [Sem.run_bind, run_underlying hu w]
      cases d <;> simp_all
    simp [loadVar, Sem.run_bind, hagg, sizeOf, typeInfo, hq, hs, hl]
theorem results_rc {α : Type} {R : Rec α} {fn : Func} {p : Tmp} {T : TypeId} {d : TypeDesc} (hf : fn.results = #[.cell p T]) (hu : Tryz.prog.underlying T = some d) (hd : (match d with | .struct _ | .array _ _ => true | _ => false) = true) (hi : (Tryz.prog.info? T).map (·.size) = some R.m) (tmps : Array Value) (w : World) (b : Nat) (x : α)
    (hp : tmps.getD p undef = .pointer (some ⟨b, 0, none⟩)) (h : RBlk R w b x) : (results fn tmps).run Tryz.prog w = .ok (.agg (R.cells x).toArray) w := by
  have hp' : tmps[p]?.getD undef = .pointer (some ⟨b, 0, none⟩) := by simpa using hp
  simp [results, hf, hp', asAddr, loadVar_rc hu hd hi h]
theorem infoElM : (Tryz.prog.info? 39).map (·.size) = some ER.m := by kernel_rfl

theorem wrd_nums (i : Nat) : strOfNums [101, 48 + (i : Int) / 100 % 10, 48 + (i : Int) / 10 % 10, 48 + (i : Int) % 10] = wrdB i := by
  have e : ∀ k : Nat, (48 + (k : Int)).toNat = 48 + k := fun k => by omega
  unfold strOfNums wrdB
  have h1 : (48 + (i : Int) / 100 % 10).toNat = 48 + i / 100 % 10 := by omega
  have h2 : (48 + (i : Int) / 10 % 10).toNat = 48 + i / 10 % 10 := by omega
  have h3 : (48 + (i : Int) % 10).toNat = 48 + i % 10 := by omega
  simp [h1, h2, h3]
theorem four_bytes (W : World) (a b c d : Int) : (convert 47 9 (.slice (some ⟨W.heap.size, 0, none⟩) 4 4)).run Tryz.prog (W.alloc (.cells #[.int .u8 a, .int .u8 b, .int .u8 c, .int .u8 d] 5)) = .ok (.string (strOfNums [a, b, c, d])) (W.alloc (.cells #[.int .u8 a, .int .u8 b, .int .u8 c, .int .u8 d] 5)) :=
  run_convert_bytes_arg _ 47 5 Tryz.underlying47 Tryz.underlying5 W.heap.size 0 4 4 [a, b, c, d] rfl (fun i hi => by
    have e : i = 0 ∨ i = 1 ∨ i = 2 ∨ i = 3 := by have : i < 4 := hi; omega
    rcases e with rfl | rfl | rfl | rfl <;> (rw [Nat.zero_add, cell_new]; rfl)) 9 Tryz.underlying9
set_option maxHeartbeats 800000 in
theorem word_any (i : Nat) (w : World) (hi : i < 1000000) :
    Calls Tryz.prog 10 #[.int .i64 (i : Int)] w fun e w' => e = .returned (.string (wrdB i)) ∧ Below w.heap.size w w' := by
  have HW := Lib.hid (wrd_nums i)
  have a1 : (i : Int).tdiv 100 = (i : Int) / 100 := Int.tdiv_eq_ediv_of_nonneg (by omega)
  have a2 : (i : Int).tdiv 10 = (i : Int) / 10 := Int.tdiv_eq_ediv_of_nonneg (by omega)
  go_enter Tryz.func10, Tryz.ntmps10
  have hcv := four_bytes w 101 (48 + (i : Int) / 100 % 10) (48 + (i : Int) / 10 % 10) (48 + (i : Int) % 10)
  go_wp2_with fail
  go_ret
  exact ⟨by rw [HW.out]; rfl, (Below.refl _ _).alloc (Nat.le_refl _) _⟩
end Go.Proofs.YtdoifaifhikkjaaGreatDoor
