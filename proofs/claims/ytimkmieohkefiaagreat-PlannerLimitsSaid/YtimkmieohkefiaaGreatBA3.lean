/-
  ZB, GA, GShelf, GB, AMath, GC, PG, YMx, PN, ZPusP, GD, GE, GF, APln, ABl, AFn, AFit: joined.
-/
import Derived.Test.YtimkmieohkefiaaGreatProg
import Derived.Shelf.SlSortCmp.InsertionK
import Derived.Shelf.SlicesG.Cmp
import Derived.Shelf.SlSortCmp.QuietGrown
import Derived.Test.YtimkmieohkefiaaGreatRows
import Derived.Sort.LotA
import Derived.Sort.WalkA
import Derived.Deep.AppendLies
import Derived.Test.YtimkmieohkefiaaGreatBA1
import Derived.Test.YtimkmieohkefiaaGreatBA2
set_option linter.unusedSimpArgs false
set_option linter.unusedVariables false
namespace Go.Proofs.YtimkmieohkefiaaGreat
open Go.RowKit Go.Lib

theorem make_listsN (w : World) (X : Nat) (hX : X ≤ 1000) : (Instr.makeSlice 77 (.int .i64 (X : Int)) (.int .i64 (X : Int))).run Tryz.prog w = .ok (.slice (some ⟨w.heap.size, 0, none⟩) X X) (w.alloc (.cells (List.replicate X (Value.slice none 0 0)).toArray 22)) := by
  obtain ⟨i0, hi, hz0, hz1, hz2⟩ := info_parts infoSli
  have h := run_make (P := Tryz.prog) w 77 22 i0 (.slice none 0 0) Tryz.underlying77 hi hz0 .i64 .i64 (X : Int) (X : Int) (by omega) (Int.le_refl _) (by rw [hz2]; omega) (by omega)
  rw [hz1, Int.toNat_natCast] at h
  have e : madeCells (Value.slice none 0 0).cells (X * 1) = (List.replicate X (Value.slice none 0 0)).toArray := by
    rw [Nat.mul_one]
    apply Array.ext'
    refine List.ext_getElem? fun j => ?_
    unfold madeCells
    by_cases h : j < X
    · simp [h, Nat.mod_one, Value.cells]
    · simp [h]
  rw [e] at h
  exact h
/-- A block that was laid since w1. -/
structure Got (w1 W : World) (g : Nat) (o : Obj) : Prop where
  at_ : W.heap[g]? = some o
  le : w1.heap.size ≤ g
theorem Got.lt {w1 W : World} {g : Nat} {o : Obj} (h : Got w1 W g o) : g < W.heap.size := (Array.getElem?_eq_some_iff.1 h.at_).1
theorem Got.below {w1 W W' : World} {g : Nat} {o : Obj} (h : Got w1 W g o) (k : Below W.heap.size W W') : Got w1 W' g o := ⟨(k.block g h.lt).trans h.at_, h.le⟩
theorem Got.new {w1 W W' : World} {o : Obj} (h : Below w1.heap.size w1 W) (e : W' = W.alloc o) : Got w1 W' W.heap.size o := by
  subst e
  exact ⟨by show (W.heap.push _)[W.heap.size]? = _; rw [Array.getElem?_push, if_pos rfl], h.size⟩
theorem OL.nils {W : World} {g n base : Nat} (h : W.heap[g]? = some (.cells (List.replicate n (Value.slice none 0 0)).toArray 22 (0, 0))) (hb : g < base) (hl : base ≤ W.heap.size) : OL W g base (List.replicate n (Value.slice none 0 0)) ((List.replicate n ([] : List Nat)).map toZ) := by
  have nil : ∀ (k : Nat) u, (List.replicate n (Value.slice none 0 0))[k]? = some u → u = .slice none 0 0 := fun k u hu => by
    rw [List.getElem?_replicate] at hu
    split at hu
    · injection hu with hu; exact hu.symm
    · cases hu
  refine ⟨h, by simp, fun k u t hu ht => ?_, fun j k u z _ hu hz b hb1 => ?_, hb, hl⟩
  · rw [nil k u hu]
    rw [List.getElem?_map, List.getElem?_replicate] at ht
    split at ht
    · injection ht with ht; subst ht; exact Own.nil
    · cases ht
  · rw [nil j u hu] at hb1; cases hb1
theorem Two.nils {W w1 : World} {gs gt b S T : Nat} (hs : W.heap[gs]? = some (.cells (List.replicate S (Value.slice none 0 0)).toArray 22 (0, 0))) (ht : W.heap[gt]? = some (.cells (List.replicate T (Value.slice none 0 0)).toArray 22 (0, 0)))
    (hne : gs ≠ gt) (h1 : w1.heap.size ≤ gs) (h2 : w1.heap.size ≤ gt) (hb : b < W.heap.size) (n1 : gs ≠ b) (n2 : gt ≠ b) (hle : w1.heap.size ≤ W.heap.size) : Two (fun k => k < w1.heap.size ∨ k = b) W gs gt W.heap.size (List.replicate S []) (List.replicate T []) := by
  have l1 := (Array.getElem?_eq_some_iff.1 hs).1
  have l2 := (Array.getElem?_eq_some_iff.1 ht).1
  have nil : ∀ (n k : Nat) u, (List.replicate n (Value.slice none 0 0))[k]? = some u → u.ownBlock = none := fun n k u hu => by
    rw [List.getElem?_replicate] at hu
    split at hu
    · injection hu with hu; rw [← hu]; rfl
    · cases hu
  refine ⟨⟨_, _, OL.nils hs l1 (Nat.le_refl _), OL.nils ht l2 (Nat.le_refl _), fun i j u v hu hv b hb => ?_, fun k hk i u hu => ?_, fun k hk i u hu => ?_⟩, hne, fun k hk => ?_⟩
  · rw [nil S i u hu] at hb; cases hb
  · rw [nil S i u hu]; simp
  · rw [nil T i u hu]; simp
  · rcases hk with hk | rfl
    · exact ⟨by omega, by omega, by omega⟩
    · exact ⟨hb, Ne.symm n1, Ne.symm n2⟩
/-- The machine before the first push. -/
structure MStart (w1 W : World) (b : Nat) (A : Option Addr) (L c : Nat) (pA : Option Addr) (n pc gs S gt T base : Nat) : Prop where
  box : MB W b A L c pA n pc gs S gt T 0 0
  two : Two (fun k => k < w1.heap.size ∨ k = b) W gs gt base (List.replicate S []) (List.replicate T [])
  bel : Below w1.heap.size w1 W
  le : w1.heap.size ≤ gs ∧ w1.heap.size ≤ gt ∧ w1.heap.size ≤ b
theorem cell_of {W : World} {b j : Nat} {vs : Array Value} {T : TypeId} {v : Value} (h : W.heap[b]? = some (.cells vs T (0, 0))) (hj : vs[j]? = some v) : W.cell? ⟨b, j, none⟩ = some v := by
  unfold World.cell?; rw [h]; exact hj
theorem zero6 {W : World} {b : Nat} {T : TypeId} (h : W.heap[b]? = some (.cells #[.slice none 0 0, .slice none 0 0, .slice none 0 0, .slice none 0 0, .int .i64 0, .int .i64 0] T (0, 0))) :
    (W.cell? ⟨b, 0, none⟩ = some (.slice none 0 0) ∧ W.cell? ⟨b, 1, none⟩ = some (.slice none 0 0) ∧ W.cell? ⟨b, 2, none⟩ = some (.slice none 0 0) ∧ W.cell? ⟨b, 3, none⟩ = some (.slice none 0 0) ∧ W.cell? ⟨b, 4, none⟩ = some (.int .i64 0) ∧ W.cell? ⟨b, 5, none⟩ = some (.int .i64 0)) ∧ ∀ j, W.frozen? ⟨b, j, none⟩ = false :=
  ⟨⟨cell_of h rfl, cell_of h rfl, cell_of h rfl, cell_of h rfl, cell_of h rfl, cell_of h rfl⟩, fun j => by unfold World.frozen?; rw [h]; rfl⟩
/-- Six cells written. -/
abbrev put6 (W : World) (b : Nat) (v0 v1 v2 v3 v4 v5 : Value) : World :=
  (((((W.setCell ⟨b, 0, none⟩ v0).setCell ⟨b, 1, none⟩ v1).setCell ⟨b, 2, none⟩ v2).setCell ⟨b, 3, none⟩ v3).setCell ⟨b, 4, none⟩ v4).setCell ⟨b, 5, none⟩ v5
theorem put6_heap (W : World) (b k : Nat) (v0 v1 v2 v3 v4 v5 : Value) (h : k ≠ b) : (put6 W b v0 v1 v2 v3 v4 v5).heap[k]? = W.heap[k]? := by
  unfold put6
  rw [Below.heap_setCell _ _ _ _ h, Below.heap_setCell _ _ _ _ h, Below.heap_setCell _ _ _ _ h, Below.heap_setCell _ _ _ _ h, Below.heap_setCell _ _ _ _ h, Below.heap_setCell _ _ _ _ h]
theorem put6_size (W : World) (b : Nat) (v0 v1 v2 v3 v4 v5 : Value) : (put6 W b v0 v1 v2 v3 v4 v5).heap.size = W.heap.size := by
  unfold put6
  rw [World.size_setCell, World.size_setCell, World.size_setCell, World.size_setCell, World.size_setCell, World.size_setCell]
theorem put6_cells {W : World} {b : Nat} {u0 u1 u2 u3 u4 u5 : Value} (h0 : W.cell? ⟨b, 0, none⟩ = some u0) (h1 : W.cell? ⟨b, 1, none⟩ = some u1) (h2 : W.cell? ⟨b, 2, none⟩ = some u2) (h3 : W.cell? ⟨b, 3, none⟩ = some u3) (h4 : W.cell? ⟨b, 4, none⟩ = some u4) (h5 : W.cell? ⟨b, 5, none⟩ = some u5) (v0 v1 v2 v3 v4 v5 : Value) :
    (put6 W b v0 v1 v2 v3 v4 v5).cell? ⟨b, 0, none⟩ = some v0 ∧ (put6 W b v0 v1 v2 v3 v4 v5).cell? ⟨b, 1, none⟩ = some v1 ∧ (put6 W b v0 v1 v2 v3 v4 v5).cell? ⟨b, 2, none⟩ = some v2 ∧ (put6 W b v0 v1 v2 v3 v4 v5).cell? ⟨b, 3, none⟩ = some v3 ∧ (put6 W b v0 v1 v2 v3 v4 v5).cell? ⟨b, 4, none⟩ = some v4 ∧ (put6 W b v0 v1 v2 v3 v4 v5).cell? ⟨b, 5, none⟩ = some v5 := by
  have o : ∀ (W : World) (i j : Nat) (u : Value), i ≠ j → (W.setCell ⟨b, i, none⟩ u).cell? ⟨b, j, none⟩ = W.cell? ⟨b, j, none⟩ := fun W i j u h => World.cell?_setCell_other _ _ _ _ (by intro e; first | exact h (congrArg Addr.off e) | exact h (congrArg Addr.off e).symm)
  refine ⟨?_, ?_, ?_, ?_, ?_, ?_⟩
  · unfold put6; rw [o _ _ _ _ (by decide), o _ _ _ _ (by decide), o _ _ _ _ (by decide), o _ _ _ _ (by decide), o _ _ _ _ (by decide)]; exact World.cell?_setCell_same _ _ _ h0
  · unfold put6; rw [o _ _ _ _ (by decide), o _ _ _ _ (by decide), o _ _ _ _ (by decide), o _ _ _ _ (by decide)]; exact World.cell?_setCell_same _ _ _ (by rw [o _ _ _ _ (by decide)]; exact h1)
  · unfold put6; rw [o _ _ _ _ (by decide), o _ _ _ _ (by decide), o _ _ _ _ (by decide)]; exact World.cell?_setCell_same _ _ _ (by rw [o _ _ _ _ (by decide), o _ _ _ _ (by decide)]; exact h2)
  · unfold put6; rw [o _ _ _ _ (by decide), o _ _ _ _ (by decide)]; exact World.cell?_setCell_same _ _ _ (by rw [o _ _ _ _ (by decide), o _ _ _ _ (by decide), o _ _ _ _ (by decide)]; exact h3)
  · unfold put6; rw [o _ _ _ _ (by decide)]; exact World.cell?_setCell_same _ _ _ (by rw [o _ _ _ _ (by decide), o _ _ _ _ (by decide), o _ _ _ _ (by decide), o _ _ _ _ (by decide)]; exact h4)
  · unfold put6; exact World.cell?_setCell_same _ _ _ (by rw [o _ _ _ _ (by decide), o _ _ _ _ (by decide), o _ _ _ _ (by decide), o _ _ _ _ (by decide), o _ _ _ _ (by decide)]; exact h5)
theorem put6_frozen (W : World) (b : Nat) (v0 v1 v2 v3 v4 v5 : Value) (p : Addr) : (put6 W b v0 v1 v2 v3 v4 v5).frozen? p = W.frozen? p := by
  unfold put6
  rw [World.frozen?_setCell, World.frozen?_setCell, World.frozen?_setCell, World.frozen?_setCell, World.frozen?_setCell, World.frozen?_setCell]
theorem put6_below {B b : Nat} {w W : World} (h : Below B w W) (hb : B ≤ b) (v0 v1 v2 v3 v4 v5 : Value) : Below B w (put6 W b v0 v1 v2 v3 v4 v5) :=
  (((((h.setCell (p := ⟨b, 0, none⟩) hb _).setCell (p := ⟨b, 1, none⟩) hb _).setCell (p := ⟨b, 2, none⟩) hb _).setCell (p := ⟨b, 3, none⟩) hb _).setCell (p := ⟨b, 4, none⟩) hb _).setCell (p := ⟨b, 5, none⟩) hb _
theorem mach_new {w1 W : World} {gs gt b S T : Nat} (hs : Got w1 W gs (.cells (List.replicate S (Value.slice none 0 0)).toArray 22)) (ht : Got w1 W gt (.cells (List.replicate T (Value.slice none 0 0)).toArray 22))
    (hb : Got w1 W b (.cells #[.slice none 0 0, .slice none 0 0, .slice none 0 0, .slice none 0 0, .int .i64 0, .int .i64 0] 122)) (n1 : gs ≠ gt) (n2 : gs ≠ b) (n3 : gt ≠ b) (hB : Below w1.heap.size w1 W)
    (A : Option Addr) (L c : Nat) (pA : Option Addr) (n pc : Nat) :
    MStart w1 (put6 W b (.slice A L c) (.slice pA n pc) (.slice (some ⟨gs, 0, none⟩) S S) (.slice (some ⟨gt, 0, none⟩) T T) (.int .i64 0) (.int .i64 0)) b A L c pA n pc gs S gt T W.heap.size := by
  obtain ⟨⟨z0, z1, z2, z3, z4, z5⟩, zf⟩ := zero6 hb.at_
  obtain ⟨c0, c1, c2, c3, c4, c5⟩ := put6_cells z0 z1 z2 z3 z4 z5 (.slice A L c) (.slice pA n pc) (.slice (some ⟨gs, 0, none⟩) S S) (.slice (some ⟨gt, 0, none⟩) T T) (.int .i64 0) (.int .i64 0)
  have two := Two.nils (w1 := w1) (W := put6 W b (.slice A L c) (.slice pA n pc) (.slice (some ⟨gs, 0, none⟩) S S) (.slice (some ⟨gt, 0, none⟩) T T) (.int .i64 0) (.int .i64 0)) (b := b) ((put6_heap _ _ _ _ _ _ _ _ _ n2).trans hs.at_) ((put6_heap _ _ _ _ _ _ _ _ _ n3).trans ht.at_) n1 hs.le ht.le (by rw [put6_size]; exact hb.lt) n2 n3 (by rw [put6_size]; exact hB.size)
  rw [put6_size] at two
  exact ⟨⟨c0, c1, c2, c3, c4, c5, fun j => by rw [put6_frozen]; exact zf j, by rw [put6_size]; exact hb.lt⟩, two, put6_below hB hb.le _ _ _ _ _ _, hs.le, ht.le, hb.le⟩
/-- The machine's value. -/
abbrev mvv (A : Option Addr) (L c : Nat) (pA : Option Addr) (n pc gs S gt T : Nat) (mv pu : Int) : Value := .agg #[.slice A L c, .slice pA n pc, .slice (some ⟨gs, 0, none⟩) S S, .slice (some ⟨gt, 0, none⟩) T T, .int .i64 mv, .int .i64 pu]
theorem results_mach {fn : Func} {p : Tmp} (hf : fn.results = #[.cell p 122]) (tmps : Array Value) (w : World) (b : Nat) (v0 v1 v2 v3 v4 v5 : Value) (hp : tmps.getD p undef = .pointer (some ⟨b, 0, none⟩))
    (c0 : w.cell? ⟨b, 0, none⟩ = some v0) (c1 : w.cell? ⟨b, 1, none⟩ = some v1) (c2 : w.cell? ⟨b, 2, none⟩ = some v2) (c3 : w.cell? ⟨b, 3, none⟩ = some v3) (c4 : w.cell? ⟨b, 4, none⟩ = some v4) (c5 : w.cell? ⟨b, 5, none⟩ = some v5) :
    (results fn tmps).run Tryz.prog w = .ok (.agg #[v0, v1, v2, v3, v4, v5]) w := by
  have hp' : tmps[p]?.getD undef = .pointer (some ⟨b, 0, none⟩) := by simpa using hp
  simp [results, hf, go_sem, hp', c0, c1, c2, c3, c4, c5, asAddr]
/-- What machineBehind leaves. -/
def MachPost (l : List It) (S : Nat) (v : List Int) (A : Option Addr) (c L : Nat) (pA : Option Addr) (n pc T last : Nat) (w : World) (e : Ending) (w' : World) : Prop :=
  ∃ gs gt base, e = .returned (mvv A L c pA n pc gs S gt T (mM S l.length (cdN v) (rdN l) (last + 1) : Int) (mP S l.length (cdN v) (rdN l) (last + 1) : Int)) ∧
    Two (fun k => k < w.heap.size) w' gs gt base (mS S l.length (cdN v) (rdN l) (last + 1)) (mT S l.length T (cdN v) (rdN l) (tnN l) (last + 1)) ∧ Below w.heap.size w w' ∧ w.heap.size ≤ gs ∧ w.heap.size ≤ gt
set_option maxRecDepth 100000 in
set_option maxHeartbeats 6400000 in
theorem mach_any (l : List It) (wt : Int) (S : Nat) (v : List Int) (hpl : Pl l wt S v) (A : Option Addr) (c L : Nat) (hL : L = l.length) (pA : Option Addr) (n pc T last : Nat) (hn : n = v.length) (hT : T = tnT l) (hlast : last ≤ S) (w : World) (h : IRow w A l) (hp : Row .i64 w w.heap.size pA v) :
    Calls Tryz.prog 71 #[jv A L c wt, pv (S : Int) pA n pc, .int .i64 (last : Int)] w (MachPost l S v A c L pA n pc T last w) := by
  have hS := hpl.s12
  have htc := tcI_bd (valid_ok hpl.val).2.1 l.length (Nat.le_refl _)
  have hT16 : T ≤ 16 := by rw [hT]; unfold tnT; omega
  have hTI : tcI l l.length = (T : Int) := by rw [hT]; unfold tnT; omega
  obtain ⟨HJ0, HP0, HB0⟩ := pbox2 w A L c wt (S : Int) pA n pc
  have BX := (Below.refl _ ((w.alloc (.cells #[.slice A L c, .int .i64 wt] 37)).alloc (.cells #[.int .i64 (S : Int), .slice pA n pc] 39))).alloc (Nat.le_refl _) (.cells #[.slice none 0 0, .slice none 0 0, .slice none 0 0, .slice none 0 0, .int .i64 0, .int .i64 0] 122)
  have HR := Lib.hid (zero6 (W := ((w.alloc (.cells #[.slice A L c, .int .i64 wt] 37)).alloc (.cells #[.int .i64 (S : Int), .slice pA n pc] 39)).alloc (.cells #[.slice none 0 0, .slice none 0 0, .slice none 0 0, .slice none 0 0, .int .i64 0, .int .i64 0] 122)) (b := w.heap.size + 2) (T := 122) (by
    have e : ((w.alloc (.cells #[.slice A L c, .int .i64 wt] 37)).alloc (.cells #[.int .i64 (S : Int), .slice pA n pc] 39)).heap.size = w.heap.size + 2 := by simp
    rw [← e]; exact heap_alloc_new _ _))
  have HSZ := Lib.hid (show (((w.alloc (.cells #[.slice A L c, .int .i64 wt] 37)).alloc (.cells #[.int .i64 (S : Int), .slice pA n pc] 39)).alloc (.cells #[.slice none 0 0, .slice none 0 0, .slice none 0 0, .slice none 0 0, .int .i64 0, .int .i64 0] 122)).heap.size = w.heap.size + 3 by simp)
  have HJ := Lib.hid (HJ0.below BX HJ0.lt)
  have HP := Lib.hid (HP0.below BX HP0.lt)
  have HB := Lib.hid (HB0.trans (BX.mono HB0.size))
  have H := Lib.hid h
  have HQ := Lib.hid hp
  have HL := Lib.hid hL
  have HN := Lib.hid hn
  have HTT := Lib.hid hT
  have HPL := Lib.hid hpl
  have HTC := Lib.hid (fun (W : World) (k : IRow W A l) => (by
    have := trainCount_any l A c L hL (valid_ok hpl.val).2.1 W k
    rw [hTI] at this
    exact this : Calls Tryz.prog 66 #[.slice A L c] W fun e w' => e = .returned (.int .i64 (T : Int)) ∧ Below W.heap.size W w'))
  clear h hp HJ0 HP0 HB0 hL hn hT hpl BX htc hTI
  obtain ⟨b0, hb0⟩ : ∃ b, b = w.heap.size := ⟨_, rfl⟩
  go_enter Tryz.func71, Tryz.ntmps71
  go_upto_region 1 with fail
  rw [← hb0] at HJ HP HR HSZ ⊢
  have HB00 := Lib.hid hb0
  generalize ((w.alloc (.cells #[.slice A L c, .int .i64 wt] 37)).alloc (.cells #[.int .i64 (S : Int), .slice pA n pc] 39)).alloc (.cells #[.slice none 0 0, .slice none 0 0, .slice none 0 0, .slice none 0 0, .int .i64 0, .int .i64 0] 122) = w1 at *
  clear hb0
  go_cut [7] from 9 to 20 (fun mp wx => ∃ b gs gt base, mp = .pointer (some ⟨b, 0, none⟩) ∧ Hid (MStart w1 wx b A L c pA n pc gs S gt T base))
  case first =>
    obtain ⟨q0, e0⟩ : ∃ q, q = w1.drew := ⟨_, rfl⟩
    have HB0 := Lib.hid (show Below w1.heap.size w1 q0 by rw [e0]; exact ⟨rfl, rfl, rfl, Nat.le_refl _, fun _ _ => rfl⟩)
    have HSS := Lib.hid (show ∀ W, Below w1.heap.size w1 W → W.cell? ⟨b0, 0, none⟩ = some (.slice A L c) ∧ W.cell? ⟨b0 + 1, 0, none⟩ = some (.int .i64 (S : Int)) ∧ W.cell? ⟨b0 + 1, 1, none⟩ = some (.slice pA n pc) from fun W k =>
      ⟨(k.cell (p := ⟨b0, 0, none⟩) HJ.out.lt).trans HJ.out.c0, (k.cell (p := ⟨b0 + 1, 0, none⟩) HP.out.lt).trans HP.out.c0, (k.cell (p := ⟨b0 + 1, 1, none⟩) HP.out.lt).trans HP.out.c1⟩)
    have F0 := HSS.out q0 HB0.out
    have HE0 := Lib.hid e0
    have hmkS := fun W => make_listsN W S (by omega)
    have hmkT := fun W => make_listsN W T (by omega)
    have HIR := Lib.hid (fun (W : World) (k : Below w1.heap.size w1 W) => H.out.below (HB.out.trans (k.mono HB.out.size)))
    clear e0
    refine AnyT.begin_at (tlGe 13) (fun X => X.cell? ⟨b0, 0, none⟩ = some (.slice A L c) ∧ X.cell? ⟨b0 + 1, 0, none⟩ = some (.int .i64 (S : Int)) ∧ X.cell? ⟨b0 + 1, 1, none⟩ = some (.slice pA n pc)) (by kernel_rfl) HE0.out F0 ?_
    clear F0
    intro F0
-- TAKES T1
    refine AnyT.takeD (i := 0) (d := some 9) (v := .pointer (some ⟨b0, 0, none⟩)) rfl rfl (by kernel_rfl) (by kernel_rfl) (by kernel_rfl) (by kernel_rfl) (fun _ _ _ h => h) (Or.inl ⟨by rfl, fun wz _ => by go_simp⟩) F0 ?_
    simp only [Act.put, List.setIfInBounds_toArray, List.set_cons_zero, List.set_cons_succ]
    refine AnyT.takeD (i := 1) (d := some 10) (v := .slice A L c) rfl rfl (by kernel_rfl) (by kernel_rfl) (by kernel_rfl) (by kernel_rfl) (fun _ _ _ h => h) (Or.inl ⟨by rfl, fun wz hz => by obtain ⟨z0, z1, z2⟩ := hz; go_simp⟩) F0 ?_
    simp only [Act.put, List.setIfInBounds_toArray, List.set_cons_zero, List.set_cons_succ]
    refine AnyT.takeD (i := 2) (d := some 11) (v := .pointer (some ⟨b0 + 1, 1, none⟩)) rfl rfl (by kernel_rfl) (by kernel_rfl) (by kernel_rfl) (by kernel_rfl) (fun _ _ _ h => h) (Or.inl ⟨by rfl, fun wz _ => by go_simp⟩) F0 ?_
    simp only [Act.put, List.setIfInBounds_toArray, List.set_cons_zero, List.set_cons_succ]
    refine AnyT.takeD (i := 3) (d := some 12) (v := .slice pA n pc) rfl rfl (by kernel_rfl) (by kernel_rfl) (by kernel_rfl) (by kernel_rfl) (fun _ _ _ h => h) (Or.inl ⟨by rfl, fun wz hz => by obtain ⟨z0, z1, z2⟩ := hz; go_simp⟩) F0 ?_
    simp only [Act.put, List.setIfInBounds_toArray, List.set_cons_zero, List.set_cons_succ]
    refine AnyT.takeD (i := 4) (d := some 13) (v := .pointer (some ⟨b0 + 1, 0, none⟩)) rfl rfl (by kernel_rfl) (by kernel_rfl) (by kernel_rfl) (by kernel_rfl) (fun _ _ _ h => h) (Or.inl ⟨by rfl, fun wz _ => by go_simp⟩) F0 ?_
    simp only [Act.put, List.setIfInBounds_toArray, List.set_cons_zero, List.set_cons_succ]
    refine AnyT.takeD (i := 5) (d := some 14) (v := .int .i64 (S : Int)) rfl rfl (by kernel_rfl) (by kernel_rfl) (by kernel_rfl) (by kernel_rfl) (fun _ _ _ h => h) (Or.inl ⟨by rfl, fun wz hz => by obtain ⟨z0, z1, z2⟩ := hz; go_simp⟩) F0 ?_
    simp only [Act.put, List.setIfInBounds_toArray, List.set_cons_zero, List.set_cons_succ]
    refine AnyT.takeD (i := 7) (d := some 16) (v := .pointer (some ⟨b0, 0, none⟩)) rfl rfl (by kernel_rfl) (by kernel_rfl) (by kernel_rfl) (by kernel_rfl) (fun _ _ _ h => h) (Or.inl ⟨by rfl, fun wz _ => by go_simp⟩) F0 ?_
    simp only [Act.put, List.setIfInBounds_toArray, List.set_cons_zero, List.set_cons_succ]
    refine AnyT.takeD (i := 8) (d := some 17) (v := .slice A L c) rfl rfl (by kernel_rfl) (by kernel_rfl) (by kernel_rfl) (by kernel_rfl) (fun _ _ _ h => h) (Or.inl ⟨by rfl, fun wz hz => by obtain ⟨z0, z1, z2⟩ := hz; go_simp⟩) F0 ?_
    simp only [Act.put, List.setIfInBounds_toArray, List.set_cons_zero, List.set_cons_succ]
    refine AnyT.branch (rs := [6, 9, 12]) (by kernel_rfl) (by simp) ?_
    refine (all_cons ?_ (all_cons ?_ (all_cons ?_ all_nil)))
    · obtain ⟨q1, e1⟩ : ∃ q, q = q0.alloc (.cells (List.replicate S (Value.slice none 0 0)).toArray 22) := ⟨_, rfl⟩
      have HB1 := Lib.hid (show Below w1.heap.size w1 q1 by rw [e1]; exact HB0.out.alloc HB0.out.size _)
      have HU1 := Lib.hid (show Below q0.heap.size q0 q1 by rw [e1]; exact (Below.refl _ _).alloc (Nat.le_refl _) _)
      have HGM1 := Lib.hid (Got.new HB0.out e1)
      refine AnyT.yield (i := 6) (d := some 15) (v := .slice (some ⟨q0.heap.size, 0, none⟩) S S) (w' := q1) rfl rfl rfl (by rw [e1]; go_simp) (fun _ => HSS.out q1 HB1.out) ?_
      clear e1
      simp only [Act.put, List.setIfInBounds_toArray, List.set_cons_zero, List.set_cons_succ]
      refine AnyT.branch (rs := [9, 12]) (by kernel_rfl) (by simp) ?_
      refine (all_cons ?_ (all_cons ?_ all_nil))
      · refine AnyT.enter (i := 9) (d := some 18) (f := 66) (args := #[.slice A L c]) rfl rfl rfl (by have F1 := HSS.out q1 HB1.out; obtain ⟨z0, z1, z2⟩ := F1; go_simp) (HTC.out q1 (HIR.out q1 HB1.out)) ?_
        rintro e q2 ⟨rfl, bz⟩
        have HB2 := Lib.hid (HB1.out.trans (bz.mono HB1.out.size))
        have HGM2 := Lib.hid (HGM1.out.below bz)
        clear bz
        refine ⟨_, rfl, fun _ => HSS.out q2 HB2.out, ?_⟩
        simp only [Act.put, List.setIfInBounds_toArray, List.set_cons_zero, List.set_cons_succ]
        refine AnyT.branch (rs := [10, 12]) (by kernel_rfl) (by simp) ?_
        refine (all_cons ?_ (all_cons ?_ all_nil))
        · obtain ⟨q3, e3⟩ : ∃ q, q = q2.alloc (.cells (List.replicate T (Value.slice none 0 0)).toArray 22) := ⟨_, rfl⟩
          have HB3 := Lib.hid (show Below w1.heap.size w1 q3 by rw [e3]; exact HB2.out.alloc HB2.out.size _)
          have HU3 := Lib.hid (show Below q2.heap.size q2 q3 by rw [e3]; exact (Below.refl _ _).alloc (Nat.le_refl _) _)
          have HGM23 := Lib.hid (Got.new HB2.out e3)
          have HGM3 := Lib.hid (HGM2.out.below HU3.out)
          refine AnyT.yield (i := 10) (d := some 19) (v := .slice (some ⟨q2.heap.size, 0, none⟩) T T) (w' := q3) rfl rfl rfl (by rw [e3]; go_simp) (fun _ => HSS.out q3 HB3.out) ?_
          clear e3
          simp only [Act.put, List.setIfInBounds_toArray, List.set_cons_zero, List.set_cons_succ]
          have F3 := HSS.out q3 HB3.out
          refine AnyT.takeD (i := 11) (d := some 20) (v := mvv A L c pA n pc q0.heap.size S q2.heap.size T 0 0) rfl rfl (by kernel_rfl) (by kernel_rfl) (by kernel_rfl) (by kernel_rfl) (fun _ _ _ h => h) (Or.inl ⟨by rfl, fun wz _ => by go_simp⟩) F3 ?_
          simp only [Act.put, List.setIfInBounds_toArray, List.set_cons_zero, List.set_cons_succ]
          clear F3
          refine AnyT.branch (rs := [12]) (by kernel_rfl) (by simp) ?_
          refine (all_cons ?_ all_nil)
          · obtain ⟨q4, e4⟩ : ∃ q, q = q3.alloc (.cells #[.slice none 0 0, .slice none 0 0, .slice none 0 0, .slice none 0 0, .int .i64 0, .int .i64 0] 122) := ⟨_, rfl⟩
            have HB4 := Lib.hid (show Below w1.heap.size w1 q4 by rw [e4]; exact HB3.out.alloc HB3.out.size _)
            have HU4 := Lib.hid (show Below q3.heap.size q3 q4 by rw [e4]; exact (Below.refl _ _).alloc (Nat.le_refl _) _)
            have HGAL4 := Lib.hid (Got.new HB3.out e4)
            have HGM4 := Lib.hid (HGM3.out.below HU4.out)
            have HGM24 := Lib.hid (HGM23.out.below HU4.out)
            refine AnyT.yield (i := 12) (d := some 7) (v := .pointer (some ⟨q3.heap.size, 0, none⟩)) (w' := q4) rfl rfl rfl (by rw [e4]; go_simp) (fun _ => HSS.out q4 HB4.out) ?_
            clear e4
            simp only [Act.put, List.setIfInBounds_toArray, List.set_cons_zero, List.set_cons_succ]
            have HFN := Lib.hid (mach_new HGM4.out HGM24.out HGAL4.out (Nat.ne_of_lt HGM2.out.lt) (Nat.ne_of_lt HGM3.out.lt) (Nat.ne_of_lt HGM23.out.lt) HB4.out A L c pA n pc)
            obtain ⟨⟨x0, x1, x2, x3, x4, x5⟩, xf⟩ := zero6 HGAL4.out.at_
            have xf0 := xf 0
            have xf1 := xf 1
            have xf2 := xf 2
            have xf3 := xf 3
            have xf4 := xf 4
            have xf5 := xf 5
            clear xf
            refine AnyT.branch (rs := [13]) (by kernel_rfl) (by simp) ?_
            refine all_cons (?_) all_nil
            refine AnyT.step (i := 13) rfl (fun KK hK => ?_)
            go_simp
            refine hK.out _ _ (fun h => absurd h (by decide)) ?_
            clear hK KK x0 x1 x2 x3 x4 x5 xf0 xf1 xf2 xf3 xf4 xf5
            refine AnyT.done_ (by kernel_rfl) ?_ _
            go_wp2_with fail
            go_meet
            case rel => exact ⟨_, _, _, _, rfl, HFN⟩
        · obtain ⟨q3, e3⟩ : ∃ q, q = q2.alloc (.cells #[.slice none 0 0, .slice none 0 0, .slice none 0 0, .slice none 0 0, .int .i64 0, .int .i64 0] 122) := ⟨_, rfl⟩
          have HB3 := Lib.hid (show Below w1.heap.size w1 q3 by rw [e3]; exact HB2.out.alloc HB2.out.size _)
          have HU3 := Lib.hid (show Below q2.heap.size q2 q3 by rw [e3]; exact (Below.refl _ _).alloc (Nat.le_refl _) _)
          have HGAL3 := Lib.hid (Got.new HB2.out e3)
          have HGM3 := Lib.hid (HGM2.out.below HU3.out)
          refine AnyT.yield (i := 12) (d := some 7) (v := .pointer (some ⟨q2.heap.size, 0, none⟩)) (w' := q3) rfl rfl rfl (by rw [e3]; go_simp) (fun _ => HSS.out q3 HB3.out) ?_
          clear e3
          simp only [Act.put, List.setIfInBounds_toArray, List.set_cons_zero, List.set_cons_succ]
          refine AnyT.branch (rs := [10]) (by kernel_rfl) (by simp) ?_
          refine (all_cons ?_ all_nil)
          · obtain ⟨q4, e4⟩ : ∃ q, q = q3.alloc (.cells (List.replicate T (Value.slice none 0 0)).toArray 22) := ⟨_, rfl⟩
            have HB4 := Lib.hid (show Below w1.heap.size w1 q4 by rw [e4]; exact HB3.out.alloc HB3.out.size _)
            have HU4 := Lib.hid (show Below q3.heap.size q3 q4 by rw [e4]; exact (Below.refl _ _).alloc (Nat.le_refl _) _)
            have HGM24 := Lib.hid (Got.new HB3.out e4)
            have HGM4 := Lib.hid (HGM3.out.below HU4.out)
            have HGAL4 := Lib.hid (HGAL3.out.below HU4.out)
            refine AnyT.yield (i := 10) (d := some 19) (v := .slice (some ⟨q3.heap.size, 0, none⟩) T T) (w' := q4) rfl rfl rfl (by rw [e4]; go_simp) (fun _ => HSS.out q4 HB4.out) ?_
            clear e4
            simp only [Act.put, List.setIfInBounds_toArray, List.set_cons_zero, List.set_cons_succ]
            have F4 := HSS.out q4 HB4.out
            refine AnyT.takeD (i := 11) (d := some 20) (v := mvv A L c pA n pc q0.heap.size S q3.heap.size T 0 0) rfl rfl (by kernel_rfl) (by kernel_rfl) (by kernel_rfl) (by kernel_rfl) (fun _ _ _ h => h) (Or.inl ⟨by rfl, fun wz _ => by go_simp⟩) F4 ?_
            simp only [Act.put, List.setIfInBounds_toArray, List.set_cons_zero, List.set_cons_succ]
            clear F4
            have HFN := Lib.hid (mach_new HGM4.out HGM24.out HGAL4.out (Nat.ne_of_lt HGM3.out.lt) (Nat.ne_of_lt HGM2.out.lt) (Nat.ne_of_gt HGAL3.out.lt) HB4.out A L c pA n pc)
            obtain ⟨⟨x0, x1, x2, x3, x4, x5⟩, xf⟩ := zero6 HGAL4.out.at_
            have xf0 := xf 0
            have xf1 := xf 1
            have xf2 := xf 2
            have xf3 := xf 3
            have xf4 := xf 4
            have xf5 := xf 5
            clear xf
            refine AnyT.branch (rs := [13]) (by kernel_rfl) (by simp) ?_
            refine all_cons (?_) all_nil
            refine AnyT.step (i := 13) rfl (fun KK hK => ?_)
            go_simp
            refine hK.out _ _ (fun h => absurd h (by decide)) ?_
            clear hK KK x0 x1 x2 x3 x4 x5 xf0 xf1 xf2 xf3 xf4 xf5
            refine AnyT.done_ (by kernel_rfl) ?_ _
            go_wp2_with fail
            go_meet
            case rel => exact ⟨_, _, _, _, rfl, HFN⟩
      · obtain ⟨q2, e2⟩ : ∃ q, q = q1.alloc (.cells #[.slice none 0 0, .slice none 0 0, .slice none 0 0, .slice none 0 0, .int .i64 0, .int .i64 0] 122) := ⟨_, rfl⟩
        have HB2 := Lib.hid (show Below w1.heap.size w1 q2 by rw [e2]; exact HB1.out.alloc HB1.out.size _)
        have HU2 := Lib.hid (show Below q1.heap.size q1 q2 by rw [e2]; exact (Below.refl _ _).alloc (Nat.le_refl _) _)
        have HGAL2 := Lib.hid (Got.new HB1.out e2)
        have HGM2 := Lib.hid (HGM1.out.below HU2.out)
        refine AnyT.yield (i := 12) (d := some 7) (v := .pointer (some ⟨q1.heap.size, 0, none⟩)) (w' := q2) rfl rfl rfl (by rw [e2]; go_simp) (fun _ => HSS.out q2 HB2.out) ?_
        clear e2
        simp only [Act.put, List.setIfInBounds_toArray, List.set_cons_zero, List.set_cons_succ]
        refine AnyT.branch (rs := [9]) (by kernel_rfl) (by simp) ?_
        refine (all_cons ?_ all_nil)
        · refine AnyT.enter (i := 9) (d := some 18) (f := 66) (args := #[.slice A L c]) rfl rfl rfl (by have F2 := HSS.out q2 HB2.out; obtain ⟨z0, z1, z2⟩ := F2; go_simp) (HTC.out q2 (HIR.out q2 HB2.out)) ?_
          rintro e q3 ⟨rfl, bz⟩
          have HB3 := Lib.hid (HB2.out.trans (bz.mono HB2.out.size))
          have HGM3 := Lib.hid (HGM2.out.below bz)
          have HGAL3 := Lib.hid (HGAL2.out.below bz)
          clear bz
          refine ⟨_, rfl, fun _ => HSS.out q3 HB3.out, ?_⟩
          simp only [Act.put, List.setIfInBounds_toArray, List.set_cons_zero, List.set_cons_succ]
          refine AnyT.branch (rs := [10]) (by kernel_rfl) (by simp) ?_
          refine (all_cons ?_ all_nil)
          · obtain ⟨q4, e4⟩ : ∃ q, q = q3.alloc (.cells (List.replicate T (Value.slice none 0 0)).toArray 22) := ⟨_, rfl⟩
            have HB4 := Lib.hid (show Below w1.heap.size w1 q4 by rw [e4]; exact HB3.out.alloc HB3.out.size _)
            have HU4 := Lib.hid (show Below q3.heap.size q3 q4 by rw [e4]; exact (Below.refl _ _).alloc (Nat.le_refl _) _)
            have HGM24 := Lib.hid (Got.new HB3.out e4)
            have HGM4 := Lib.hid (HGM3.out.below HU4.out)
            have HGAL4 := Lib.hid (HGAL3.out.below HU4.out)
            refine AnyT.yield (i := 10) (d := some 19) (v := .slice (some ⟨q3.heap.size, 0, none⟩) T T) (w' := q4) rfl rfl rfl (by rw [e4]; go_simp) (fun _ => HSS.out q4 HB4.out) ?_
            clear e4
            simp only [Act.put, List.setIfInBounds_toArray, List.set_cons_zero, List.set_cons_succ]
            have F4 := HSS.out q4 HB4.out
            refine AnyT.takeD (i := 11) (d := some 20) (v := mvv A L c pA n pc q0.heap.size S q3.heap.size T 0 0) rfl rfl (by kernel_rfl) (by kernel_rfl) (by kernel_rfl) (by kernel_rfl) (fun _ _ _ h => h) (Or.inl ⟨by rfl, fun wz _ => by go_simp⟩) F4 ?_
            simp only [Act.put, List.setIfInBounds_toArray, List.set_cons_zero, List.set_cons_succ]
            clear F4
            have HFN := Lib.hid (mach_new HGM4.out HGM24.out HGAL4.out (Nat.ne_of_lt HGM3.out.lt) (Nat.ne_of_lt HGM1.out.lt) (Nat.ne_of_gt HGAL3.out.lt) HB4.out A L c pA n pc)
            obtain ⟨⟨x0, x1, x2, x3, x4, x5⟩, xf⟩ := zero6 HGAL4.out.at_
            have xf0 := xf 0
            have xf1 := xf 1
            have xf2 := xf 2
            have xf3 := xf 3
            have xf4 := xf 4
            have xf5 := xf 5
            clear xf
            refine AnyT.branch (rs := [13]) (by kernel_rfl) (by simp) ?_
            refine all_cons (?_) all_nil
            refine AnyT.step (i := 13) rfl (fun KK hK => ?_)
            go_simp
            refine hK.out _ _ (fun h => absurd h (by decide)) ?_
            clear hK KK x0 x1 x2 x3 x4 x5 xf0 xf1 xf2 xf3 xf4 xf5
            refine AnyT.done_ (by kernel_rfl) ?_ _
            go_wp2_with fail
            go_meet
            case rel => exact ⟨_, _, _, _, rfl, HFN⟩
    · refine AnyT.enter (i := 9) (d := some 18) (f := 66) (args := #[.slice A L c]) rfl rfl rfl (by have F0 := HSS.out q0 HB0.out; obtain ⟨z0, z1, z2⟩ := F0; go_simp) (HTC.out q0 (HIR.out q0 HB0.out)) ?_
      rintro e q1 ⟨rfl, bz⟩
      have HB1 := Lib.hid (HB0.out.trans (bz.mono HB0.out.size))
      clear bz
      refine ⟨_, rfl, fun _ => HSS.out q1 HB1.out, ?_⟩
      simp only [Act.put, List.setIfInBounds_toArray, List.set_cons_zero, List.set_cons_succ]
      refine AnyT.branch (rs := [6, 10, 12]) (by kernel_rfl) (by simp) ?_
      refine (all_cons ?_ (all_cons ?_ (all_cons ?_ all_nil)))
      · obtain ⟨q2, e2⟩ : ∃ q, q = q1.alloc (.cells (List.replicate S (Value.slice none 0 0)).toArray 22) := ⟨_, rfl⟩
        have HB2 := Lib.hid (show Below w1.heap.size w1 q2 by rw [e2]; exact HB1.out.alloc HB1.out.size _)
        have HU2 := Lib.hid (show Below q1.heap.size q1 q2 by rw [e2]; exact (Below.refl _ _).alloc (Nat.le_refl _) _)
        have HGM2 := Lib.hid (Got.new HB1.out e2)
        refine AnyT.yield (i := 6) (d := some 15) (v := .slice (some ⟨q1.heap.size, 0, none⟩) S S) (w' := q2) rfl rfl rfl (by rw [e2]; go_simp) (fun _ => HSS.out q2 HB2.out) ?_
        clear e2
        simp only [Act.put, List.setIfInBounds_toArray, List.set_cons_zero, List.set_cons_succ]
        refine AnyT.branch (rs := [10, 12]) (by kernel_rfl) (by simp) ?_
        refine (all_cons ?_ (all_cons ?_ all_nil))
        · obtain ⟨q3, e3⟩ : ∃ q, q = q2.alloc (.cells (List.replicate T (Value.slice none 0 0)).toArray 22) := ⟨_, rfl⟩
          have HB3 := Lib.hid (show Below w1.heap.size w1 q3 by rw [e3]; exact HB2.out.alloc HB2.out.size _)
          have HU3 := Lib.hid (show Below q2.heap.size q2 q3 by rw [e3]; exact (Below.refl _ _).alloc (Nat.le_refl _) _)
          have HGM23 := Lib.hid (Got.new HB2.out e3)
          have HGM3 := Lib.hid (HGM2.out.below HU3.out)
          refine AnyT.yield (i := 10) (d := some 19) (v := .slice (some ⟨q2.heap.size, 0, none⟩) T T) (w' := q3) rfl rfl rfl (by rw [e3]; go_simp) (fun _ => HSS.out q3 HB3.out) ?_
          clear e3
          simp only [Act.put, List.setIfInBounds_toArray, List.set_cons_zero, List.set_cons_succ]
          have F3 := HSS.out q3 HB3.out
          refine AnyT.takeD (i := 11) (d := some 20) (v := mvv A L c pA n pc q1.heap.size S q2.heap.size T 0 0) rfl rfl (by kernel_rfl) (by kernel_rfl) (by kernel_rfl) (by kernel_rfl) (fun _ _ _ h => h) (Or.inl ⟨by rfl, fun wz _ => by go_simp⟩) F3 ?_
          simp only [Act.put, List.setIfInBounds_toArray, List.set_cons_zero, List.set_cons_succ]
          clear F3
          refine AnyT.branch (rs := [12]) (by kernel_rfl) (by simp) ?_
          refine (all_cons ?_ all_nil)
          · obtain ⟨q4, e4⟩ : ∃ q, q = q3.alloc (.cells #[.slice none 0 0, .slice none 0 0, .slice none 0 0, .slice none 0 0, .int .i64 0, .int .i64 0] 122) := ⟨_, rfl⟩
            have HB4 := Lib.hid (show Below w1.heap.size w1 q4 by rw [e4]; exact HB3.out.alloc HB3.out.size _)
            have HU4 := Lib.hid (show Below q3.heap.size q3 q4 by rw [e4]; exact (Below.refl _ _).alloc (Nat.le_refl _) _)
            have HGAL4 := Lib.hid (Got.new HB3.out e4)
            have HGM4 := Lib.hid (HGM3.out.below HU4.out)
            have HGM24 := Lib.hid (HGM23.out.below HU4.out)
            refine AnyT.yield (i := 12) (d := some 7) (v := .pointer (some ⟨q3.heap.size, 0, none⟩)) (w' := q4) rfl rfl rfl (by rw [e4]; go_simp) (fun _ => HSS.out q4 HB4.out) ?_
            clear e4
            simp only [Act.put, List.setIfInBounds_toArray, List.set_cons_zero, List.set_cons_succ]
            have HFN := Lib.hid (mach_new HGM4.out HGM24.out HGAL4.out (Nat.ne_of_lt HGM2.out.lt) (Nat.ne_of_lt HGM3.out.lt) (Nat.ne_of_lt HGM23.out.lt) HB4.out A L c pA n pc)
            obtain ⟨⟨x0, x1, x2, x3, x4, x5⟩, xf⟩ := zero6 HGAL4.out.at_
            have xf0 := xf 0
            have xf1 := xf 1
            have xf2 := xf 2
            have xf3 := xf 3
            have xf4 := xf 4
            have xf5 := xf 5
            clear xf
            refine AnyT.branch (rs := [13]) (by kernel_rfl) (by simp) ?_
            refine all_cons (?_) all_nil
            refine AnyT.step (i := 13) rfl (fun KK hK => ?_)
            go_simp
            refine hK.out _ _ (fun h => absurd h (by decide)) ?_
            clear hK KK x0 x1 x2 x3 x4 x5 xf0 xf1 xf2 xf3 xf4 xf5
            refine AnyT.done_ (by kernel_rfl) ?_ _
            go_wp2_with fail
            go_meet
            case rel => exact ⟨_, _, _, _, rfl, HFN⟩
        · obtain ⟨q3, e3⟩ : ∃ q, q = q2.alloc (.cells #[.slice none 0 0, .slice none 0 0, .slice none 0 0, .slice none 0 0, .int .i64 0, .int .i64 0] 122) := ⟨_, rfl⟩
          have HB3 := Lib.hid (show Below w1.heap.size w1 q3 by rw [e3]; exact HB2.out.alloc HB2.out.size _)
          have HU3 := Lib.hid (show Below q2.heap.size q2 q3 by rw [e3]; exact (Below.refl _ _).alloc (Nat.le_refl _) _)
          have HGAL3 := Lib.hid (Got.new HB2.out e3)
          have HGM3 := Lib.hid (HGM2.out.below HU3.out)
          refine AnyT.yield (i := 12) (d := some 7) (v := .pointer (some ⟨q2.heap.size, 0, none⟩)) (w' := q3) rfl rfl rfl (by rw [e3]; go_simp) (fun _ => HSS.out q3 HB3.out) ?_
          clear e3
          simp only [Act.put, List.setIfInBounds_toArray, List.set_cons_zero, List.set_cons_succ]
          refine AnyT.branch (rs := [10]) (by kernel_rfl) (by simp) ?_
          refine (all_cons ?_ all_nil)
          · obtain ⟨q4, e4⟩ : ∃ q, q = q3.alloc (.cells (List.replicate T (Value.slice none 0 0)).toArray 22) := ⟨_, rfl⟩
            have HB4 := Lib.hid (show Below w1.heap.size w1 q4 by rw [e4]; exact HB3.out.alloc HB3.out.size _)
            have HU4 := Lib.hid (show Below q3.heap.size q3 q4 by rw [e4]; exact (Below.refl _ _).alloc (Nat.le_refl _) _)
            have HGM24 := Lib.hid (Got.new HB3.out e4)
            have HGM4 := Lib.hid (HGM3.out.below HU4.out)
            have HGAL4 := Lib.hid (HGAL3.out.below HU4.out)
            refine AnyT.yield (i := 10) (d := some 19) (v := .slice (some ⟨q3.heap.size, 0, none⟩) T T) (w' := q4) rfl rfl rfl (by rw [e4]; go_simp) (fun _ => HSS.out q4 HB4.out) ?_
            clear e4
            simp only [Act.put, List.setIfInBounds_toArray, List.set_cons_zero, List.set_cons_succ]
            have F4 := HSS.out q4 HB4.out
            refine AnyT.takeD (i := 11) (d := some 20) (v := mvv A L c pA n pc q1.heap.size S q3.heap.size T 0 0) rfl rfl (by kernel_rfl) (by kernel_rfl) (by kernel_rfl) (by kernel_rfl) (fun _ _ _ h => h) (Or.inl ⟨by rfl, fun wz _ => by go_simp⟩) F4 ?_
            simp only [Act.put, List.setIfInBounds_toArray, List.set_cons_zero, List.set_cons_succ]
            clear F4
            have HFN := Lib.hid (mach_new HGM4.out HGM24.out HGAL4.out (Nat.ne_of_lt HGM3.out.lt) (Nat.ne_of_lt HGM2.out.lt) (Nat.ne_of_gt HGAL3.out.lt) HB4.out A L c pA n pc)
            obtain ⟨⟨x0, x1, x2, x3, x4, x5⟩, xf⟩ := zero6 HGAL4.out.at_
            have xf0 := xf 0
            have xf1 := xf 1
            have xf2 := xf 2
            have xf3 := xf 3
            have xf4 := xf 4
            have xf5 := xf 5
            clear xf
            refine AnyT.branch (rs := [13]) (by kernel_rfl) (by simp) ?_
            refine all_cons (?_) all_nil
            refine AnyT.step (i := 13) rfl (fun KK hK => ?_)
            go_simp
            refine hK.out _ _ (fun h => absurd h (by decide)) ?_
            clear hK KK x0 x1 x2 x3 x4 x5 xf0 xf1 xf2 xf3 xf4 xf5
            refine AnyT.done_ (by kernel_rfl) ?_ _
            go_wp2_with fail
            go_meet
            case rel => exact ⟨_, _, _, _, rfl, HFN⟩
      · obtain ⟨q2, e2⟩ : ∃ q, q = q1.alloc (.cells (List.replicate T (Value.slice none 0 0)).toArray 22) := ⟨_, rfl⟩
        have HB2 := Lib.hid (show Below w1.heap.size w1 q2 by rw [e2]; exact HB1.out.alloc HB1.out.size _)
        have HU2 := Lib.hid (show Below q1.heap.size q1 q2 by rw [e2]; exact (Below.refl _ _).alloc (Nat.le_refl _) _)
        have HGM22 := Lib.hid (Got.new HB1.out e2)
        refine AnyT.yield (i := 10) (d := some 19) (v := .slice (some ⟨q1.heap.size, 0, none⟩) T T) (w' := q2) rfl rfl rfl (by rw [e2]; go_simp) (fun _ => HSS.out q2 HB2.out) ?_
        clear e2
        simp only [Act.put, List.setIfInBounds_toArray, List.set_cons_zero, List.set_cons_succ]
        refine AnyT.branch (rs := [6, 12]) (by kernel_rfl) (by simp) ?_
        refine (all_cons ?_ (all_cons ?_ all_nil))
        · obtain ⟨q3, e3⟩ : ∃ q, q = q2.alloc (.cells (List.replicate S (Value.slice none 0 0)).toArray 22) := ⟨_, rfl⟩
          have HB3 := Lib.hid (show Below w1.heap.size w1 q3 by rw [e3]; exact HB2.out.alloc HB2.out.size _)
          have HU3 := Lib.hid (show Below q2.heap.size q2 q3 by rw [e3]; exact (Below.refl _ _).alloc (Nat.le_refl _) _)
          have HGM3 := Lib.hid (Got.new HB2.out e3)
          have HGM23 := Lib.hid (HGM22.out.below HU3.out)
          refine AnyT.yield (i := 6) (d := some 15) (v := .slice (some ⟨q2.heap.size, 0, none⟩) S S) (w' := q3) rfl rfl rfl (by rw [e3]; go_simp) (fun _ => HSS.out q3 HB3.out) ?_
          clear e3
          simp only [Act.put, List.setIfInBounds_toArray, List.set_cons_zero, List.set_cons_succ]
          have F3 := HSS.out q3 HB3.out
          refine AnyT.takeD (i := 11) (d := some 20) (v := mvv A L c pA n pc q2.heap.size S q1.heap.size T 0 0) rfl rfl (by kernel_rfl) (by kernel_rfl) (by kernel_rfl) (by kernel_rfl) (fun _ _ _ h => h) (Or.inl ⟨by rfl, fun wz _ => by go_simp⟩) F3 ?_
          simp only [Act.put, List.setIfInBounds_toArray, List.set_cons_zero, List.set_cons_succ]
          clear F3
          refine AnyT.branch (rs := [12]) (by kernel_rfl) (by simp) ?_
          refine (all_cons ?_ all_nil)
          · obtain ⟨q4, e4⟩ : ∃ q, q = q3.alloc (.cells #[.slice none 0 0, .slice none 0 0, .slice none 0 0, .slice none 0 0, .int .i64 0, .int .i64 0] 122) := ⟨_, rfl⟩
            have HB4 := Lib.hid (show Below w1.heap.size w1 q4 by rw [e4]; exact HB3.out.alloc HB3.out.size _)
            have HU4 := Lib.hid (show Below q3.heap.size q3 q4 by rw [e4]; exact (Below.refl _ _).alloc (Nat.le_refl _) _)
            have HGAL4 := Lib.hid (Got.new HB3.out e4)
            have HGM24 := Lib.hid (HGM23.out.below HU4.out)
            have HGM4 := Lib.hid (HGM3.out.below HU4.out)
            refine AnyT.yield (i := 12) (d := some 7) (v := .pointer (some ⟨q3.heap.size, 0, none⟩)) (w' := q4) rfl rfl rfl (by rw [e4]; go_simp) (fun _ => HSS.out q4 HB4.out) ?_
            clear e4
            simp only [Act.put, List.setIfInBounds_toArray, List.set_cons_zero, List.set_cons_succ]
            have HFN := Lib.hid (mach_new HGM4.out HGM24.out HGAL4.out (Nat.ne_of_gt HGM22.out.lt) (Nat.ne_of_lt HGM3.out.lt) (Nat.ne_of_lt HGM23.out.lt) HB4.out A L c pA n pc)
            obtain ⟨⟨x0, x1, x2, x3, x4, x5⟩, xf⟩ := zero6 HGAL4.out.at_
            have xf0 := xf 0
            have xf1 := xf 1
            have xf2 := xf 2
            have xf3 := xf 3
            have xf4 := xf 4
            have xf5 := xf 5
            clear xf
            refine AnyT.branch (rs := [13]) (by kernel_rfl) (by simp) ?_
            refine all_cons (?_) all_nil
            refine AnyT.step (i := 13) rfl (fun KK hK => ?_)
            go_simp
            refine hK.out _ _ (fun h => absurd h (by decide)) ?_
            clear hK KK x0 x1 x2 x3 x4 x5 xf0 xf1 xf2 xf3 xf4 xf5
            refine AnyT.done_ (by kernel_rfl) ?_ _
            go_wp2_with fail
            go_meet
            case rel => exact ⟨_, _, _, _, rfl, HFN⟩
        · obtain ⟨q3, e3⟩ : ∃ q, q = q2.alloc (.cells #[.slice none 0 0, .slice none 0 0, .slice none 0 0, .slice none 0 0, .int .i64 0, .int .i64 0] 122) := ⟨_, rfl⟩
          have HB3 := Lib.hid (show Below w1.heap.size w1 q3 by rw [e3]; exact HB2.out.alloc HB2.out.size _)
          have HU3 := Lib.hid (show Below q2.heap.size q2 q3 by rw [e3]; exact (Below.refl _ _).alloc (Nat.le_refl _) _)
          have HGAL3 := Lib.hid (Got.new HB2.out e3)
          have HGM23 := Lib.hid (HGM22.out.below HU3.out)
          refine AnyT.yield (i := 12) (d := some 7) (v := .pointer (some ⟨q2.heap.size, 0, none⟩)) (w' := q3) rfl rfl rfl (by rw [e3]; go_simp) (fun _ => HSS.out q3 HB3.out) ?_
          clear e3
          simp only [Act.put, List.setIfInBounds_toArray, List.set_cons_zero, List.set_cons_succ]
          refine AnyT.branch (rs := [6]) (by kernel_rfl) (by simp) ?_
          refine (all_cons ?_ all_nil)
          · obtain ⟨q4, e4⟩ : ∃ q, q = q3.alloc (.cells (List.replicate S (Value.slice none 0 0)).toArray 22) := ⟨_, rfl⟩
            have HB4 := Lib.hid (show Below w1.heap.size w1 q4 by rw [e4]; exact HB3.out.alloc HB3.out.size _)
            have HU4 := Lib.hid (show Below q3.heap.size q3 q4 by rw [e4]; exact (Below.refl _ _).alloc (Nat.le_refl _) _)
            have HGM4 := Lib.hid (Got.new HB3.out e4)
            have HGM24 := Lib.hid (HGM23.out.below HU4.out)
            have HGAL4 := Lib.hid (HGAL3.out.below HU4.out)
            refine AnyT.yield (i := 6) (d := some 15) (v := .slice (some ⟨q3.heap.size, 0, none⟩) S S) (w' := q4) rfl rfl rfl (by rw [e4]; go_simp) (fun _ => HSS.out q4 HB4.out) ?_
            clear e4
            simp only [Act.put, List.setIfInBounds_toArray, List.set_cons_zero, List.set_cons_succ]
            have F4 := HSS.out q4 HB4.out
            refine AnyT.takeD (i := 11) (d := some 20) (v := mvv A L c pA n pc q3.heap.size S q1.heap.size T 0 0) rfl rfl (by kernel_rfl) (by kernel_rfl) (by kernel_rfl) (by kernel_rfl) (fun _ _ _ h => h) (Or.inl ⟨by rfl, fun wz _ => by go_simp⟩) F4 ?_
            simp only [Act.put, List.setIfInBounds_toArray, List.set_cons_zero, List.set_cons_succ]
            clear F4
            have HFN := Lib.hid (mach_new HGM4.out HGM24.out HGAL4.out (Nat.ne_of_gt HGM23.out.lt) (Nat.ne_of_gt HGAL3.out.lt) (Nat.ne_of_lt HGM22.out.lt) HB4.out A L c pA n pc)
            obtain ⟨⟨x0, x1, x2, x3, x4, x5⟩, xf⟩ := zero6 HGAL4.out.at_
            have xf0 := xf 0
            have xf1 := xf 1
            have xf2 := xf 2
            have xf3 := xf 3
            have xf4 := xf 4
            have xf5 := xf 5
            clear xf
            refine AnyT.branch (rs := [13]) (by kernel_rfl) (by simp) ?_
            refine all_cons (?_) all_nil
            refine AnyT.step (i := 13) rfl (fun KK hK => ?_)
            go_simp
            refine hK.out _ _ (fun h => absurd h (by decide)) ?_
            clear hK KK x0 x1 x2 x3 x4 x5 xf0 xf1 xf2 xf3 xf4 xf5
            refine AnyT.done_ (by kernel_rfl) ?_ _
            go_wp2_with fail
            go_meet
            case rel => exact ⟨_, _, _, _, rfl, HFN⟩
      · obtain ⟨q2, e2⟩ : ∃ q, q = q1.alloc (.cells #[.slice none 0 0, .slice none 0 0, .slice none 0 0, .slice none 0 0, .int .i64 0, .int .i64 0] 122) := ⟨_, rfl⟩
        have HB2 := Lib.hid (show Below w1.heap.size w1 q2 by rw [e2]; exact HB1.out.alloc HB1.out.size _)
        have HU2 := Lib.hid (show Below q1.heap.size q1 q2 by rw [e2]; exact (Below.refl _ _).alloc (Nat.le_refl _) _)
        have HGAL2 := Lib.hid (Got.new HB1.out e2)
        refine AnyT.yield (i := 12) (d := some 7) (v := .pointer (some ⟨q1.heap.size, 0, none⟩)) (w' := q2) rfl rfl rfl (by rw [e2]; go_simp) (fun _ => HSS.out q2 HB2.out) ?_
        clear e2
        simp only [Act.put, List.setIfInBounds_toArray, List.set_cons_zero, List.set_cons_succ]
        refine AnyT.branch (rs := [6, 10]) (by kernel_rfl) (by simp) ?_
        refine (all_cons ?_ (all_cons ?_ all_nil))
        · obtain ⟨q3, e3⟩ : ∃ q, q = q2.alloc (.cells (List.replicate S (Value.slice none 0 0)).toArray 22) := ⟨_, rfl⟩
          have HB3 := Lib.hid (show Below w1.heap.size w1 q3 by rw [e3]; exact HB2.out.alloc HB2.out.size _)
          have HU3 := Lib.hid (show Below q2.heap.size q2 q3 by rw [e3]; exact (Below.refl _ _).alloc (Nat.le_refl _) _)
          have HGM3 := Lib.hid (Got.new HB2.out e3)
          have HGAL3 := Lib.hid (HGAL2.out.below HU3.out)
          refine AnyT.yield (i := 6) (d := some 15) (v := .slice (some ⟨q2.heap.size, 0, none⟩) S S) (w' := q3) rfl rfl rfl (by rw [e3]; go_simp) (fun _ => HSS.out q3 HB3.out) ?_
          clear e3
          simp only [Act.put, List.setIfInBounds_toArray, List.set_cons_zero, List.set_cons_succ]
          refine AnyT.branch (rs := [10]) (by kernel_rfl) (by simp) ?_
          refine (all_cons ?_ all_nil)
          · obtain ⟨q4, e4⟩ : ∃ q, q = q3.alloc (.cells (List.replicate T (Value.slice none 0 0)).toArray 22) := ⟨_, rfl⟩
            have HB4 := Lib.hid (show Below w1.heap.size w1 q4 by rw [e4]; exact HB3.out.alloc HB3.out.size _)
            have HU4 := Lib.hid (show Below q3.heap.size q3 q4 by rw [e4]; exact (Below.refl _ _).alloc (Nat.le_refl _) _)
            have HGM24 := Lib.hid (Got.new HB3.out e4)
            have HGAL4 := Lib.hid (HGAL3.out.below HU4.out)
            have HGM4 := Lib.hid (HGM3.out.below HU4.out)
            refine AnyT.yield (i := 10) (d := some 19) (v := .slice (some ⟨q3.heap.size, 0, none⟩) T T) (w' := q4) rfl rfl rfl (by rw [e4]; go_simp) (fun _ => HSS.out q4 HB4.out) ?_
            clear e4
            simp only [Act.put, List.setIfInBounds_toArray, List.set_cons_zero, List.set_cons_succ]
            have F4 := HSS.out q4 HB4.out
            refine AnyT.takeD (i := 11) (d := some 20) (v := mvv A L c pA n pc q2.heap.size S q3.heap.size T 0 0) rfl rfl (by kernel_rfl) (by kernel_rfl) (by kernel_rfl) (by kernel_rfl) (fun _ _ _ h => h) (Or.inl ⟨by rfl, fun wz _ => by go_simp⟩) F4 ?_
            simp only [Act.put, List.setIfInBounds_toArray, List.set_cons_zero, List.set_cons_succ]
            clear F4
            have HFN := Lib.hid (mach_new HGM4.out HGM24.out HGAL4.out (Nat.ne_of_lt HGM3.out.lt) (Nat.ne_of_gt HGAL2.out.lt) (Nat.ne_of_gt HGAL3.out.lt) HB4.out A L c pA n pc)
            obtain ⟨⟨x0, x1, x2, x3, x4, x5⟩, xf⟩ := zero6 HGAL4.out.at_
            have xf0 := xf 0
            have xf1 := xf 1
            have xf2 := xf 2
            have xf3 := xf 3
            have xf4 := xf 4
            have xf5 := xf 5
            clear xf
            refine AnyT.branch (rs := [13]) (by kernel_rfl) (by simp) ?_
            refine all_cons (?_) all_nil
            refine AnyT.step (i := 13) rfl (fun KK hK => ?_)
            go_simp
            refine hK.out _ _ (fun h => absurd h (by decide)) ?_
            clear hK KK x0 x1 x2 x3 x4 x5 xf0 xf1 xf2 xf3 xf4 xf5
            refine AnyT.done_ (by kernel_rfl) ?_ _
            go_wp2_with fail
            go_meet
            case rel => exact ⟨_, _, _, _, rfl, HFN⟩
        · obtain ⟨q3, e3⟩ : ∃ q, q = q2.alloc (.cells (List.replicate T (Value.slice none 0 0)).toArray 22) := ⟨_, rfl⟩
          have HB3 := Lib.hid (show Below w1.heap.size w1 q3 by rw [e3]; exact HB2.out.alloc HB2.out.size _)
          have HU3 := Lib.hid (show Below q2.heap.size q2 q3 by rw [e3]; exact (Below.refl _ _).alloc (Nat.le_refl _) _)
          have HGM23 := Lib.hid (Got.new HB2.out e3)
          have HGAL3 := Lib.hid (HGAL2.out.below HU3.out)
          refine AnyT.yield (i := 10) (d := some 19) (v := .slice (some ⟨q2.heap.size, 0, none⟩) T T) (w' := q3) rfl rfl rfl (by rw [e3]; go_simp) (fun _ => HSS.out q3 HB3.out) ?_
          clear e3
          simp only [Act.put, List.setIfInBounds_toArray, List.set_cons_zero, List.set_cons_succ]
          refine AnyT.branch (rs := [6]) (by kernel_rfl) (by simp) ?_
          refine (all_cons ?_ all_nil)
          · obtain ⟨q4, e4⟩ : ∃ q, q = q3.alloc (.cells (List.replicate S (Value.slice none 0 0)).toArray 22) := ⟨_, rfl⟩
            have HB4 := Lib.hid (show Below w1.heap.size w1 q4 by rw [e4]; exact HB3.out.alloc HB3.out.size _)
            have HU4 := Lib.hid (show Below q3.heap.size q3 q4 by rw [e4]; exact (Below.refl _ _).alloc (Nat.le_refl _) _)
            have HGM4 := Lib.hid (Got.new HB3.out e4)
            have HGAL4 := Lib.hid (HGAL3.out.below HU4.out)
            have HGM24 := Lib.hid (HGM23.out.below HU4.out)
            refine AnyT.yield (i := 6) (d := some 15) (v := .slice (some ⟨q3.heap.size, 0, none⟩) S S) (w' := q4) rfl rfl rfl (by rw [e4]; go_simp) (fun _ => HSS.out q4 HB4.out) ?_
            clear e4
            simp only [Act.put, List.setIfInBounds_toArray, List.set_cons_zero, List.set_cons_succ]
            have F4 := HSS.out q4 HB4.out
            refine AnyT.takeD (i := 11) (d := some 20) (v := mvv A L c pA n pc q3.heap.size S q2.heap.size T 0 0) rfl rfl (by kernel_rfl) (by kernel_rfl) (by kernel_rfl) (by kernel_rfl) (fun _ _ _ h => h) (Or.inl ⟨by rfl, fun wz _ => by go_simp⟩) F4 ?_
            simp only [Act.put, List.setIfInBounds_toArray, List.set_cons_zero, List.set_cons_succ]
            clear F4
            have HFN := Lib.hid (mach_new HGM4.out HGM24.out HGAL4.out (Nat.ne_of_gt HGM23.out.lt) (Nat.ne_of_gt HGAL3.out.lt) (Nat.ne_of_gt HGAL2.out.lt) HB4.out A L c pA n pc)
            obtain ⟨⟨x0, x1, x2, x3, x4, x5⟩, xf⟩ := zero6 HGAL4.out.at_
            have xf0 := xf 0
            have xf1 := xf 1
            have xf2 := xf 2
            have xf3 := xf 3
            have xf4 := xf 4
            have xf5 := xf 5
            clear xf
            refine AnyT.branch (rs := [13]) (by kernel_rfl) (by simp) ?_
            refine all_cons (?_) all_nil
            refine AnyT.step (i := 13) rfl (fun KK hK => ?_)
            go_simp
            refine hK.out _ _ (fun h => absurd h (by decide)) ?_
            clear hK KK x0 x1 x2 x3 x4 x5 xf0 xf1 xf2 xf3 xf4 xf5
            refine AnyT.done_ (by kernel_rfl) ?_ _
            go_wp2_with fail
            go_meet
            case rel => exact ⟨_, _, _, _, rfl, HFN⟩
    · obtain ⟨q1, e1⟩ : ∃ q, q = q0.alloc (.cells #[.slice none 0 0, .slice none 0 0, .slice none 0 0, .slice none 0 0, .int .i64 0, .int .i64 0] 122) := ⟨_, rfl⟩
      have HB1 := Lib.hid (show Below w1.heap.size w1 q1 by rw [e1]; exact HB0.out.alloc HB0.out.size _)
      have HU1 := Lib.hid (show Below q0.heap.size q0 q1 by rw [e1]; exact (Below.refl _ _).alloc (Nat.le_refl _) _)
      have HGAL1 := Lib.hid (Got.new HB0.out e1)
      refine AnyT.yield (i := 12) (d := some 7) (v := .pointer (some ⟨q0.heap.size, 0, none⟩)) (w' := q1) rfl rfl rfl (by rw [e1]; go_simp) (fun _ => HSS.out q1 HB1.out) ?_
      clear e1
      simp only [Act.put, List.setIfInBounds_toArray, List.set_cons_zero, List.set_cons_succ]
      refine AnyT.branch (rs := [6, 9]) (by kernel_rfl) (by simp) ?_
      refine (all_cons ?_ (all_cons ?_ all_nil))
      · obtain ⟨q2, e2⟩ : ∃ q, q = q1.alloc (.cells (List.replicate S (Value.slice none 0 0)).toArray 22) := ⟨_, rfl⟩
        have HB2 := Lib.hid (show Below w1.heap.size w1 q2 by rw [e2]; exact HB1.out.alloc HB1.out.size _)
        have HU2 := Lib.hid (show Below q1.heap.size q1 q2 by rw [e2]; exact (Below.refl _ _).alloc (Nat.le_refl _) _)
        have HGM2 := Lib.hid (Got.new HB1.out e2)
        have HGAL2 := Lib.hid (HGAL1.out.below HU2.out)
        refine AnyT.yield (i := 6) (d := some 15) (v := .slice (some ⟨q1.heap.size, 0, none⟩) S S) (w' := q2) rfl rfl rfl (by rw [e2]; go_simp) (fun _ => HSS.out q2 HB2.out) ?_
        clear e2
        simp only [Act.put, List.setIfInBounds_toArray, List.set_cons_zero, List.set_cons_succ]
        refine AnyT.branch (rs := [9]) (by kernel_rfl) (by simp) ?_
        refine (all_cons ?_ all_nil)
        · refine AnyT.enter (i := 9) (d := some 18) (f := 66) (args := #[.slice A L c]) rfl rfl rfl (by have F2 := HSS.out q2 HB2.out; obtain ⟨z0, z1, z2⟩ := F2; go_simp) (HTC.out q2 (HIR.out q2 HB2.out)) ?_
          rintro e q3 ⟨rfl, bz⟩
          have HB3 := Lib.hid (HB2.out.trans (bz.mono HB2.out.size))
          have HGAL3 := Lib.hid (HGAL2.out.below bz)
          have HGM3 := Lib.hid (HGM2.out.below bz)
          clear bz
          refine ⟨_, rfl, fun _ => HSS.out q3 HB3.out, ?_⟩
          simp only [Act.put, List.setIfInBounds_toArray, List.set_cons_zero, List.set_cons_succ]
          refine AnyT.branch (rs := [10]) (by kernel_rfl) (by simp) ?_
          refine (all_cons ?_ all_nil)
          · obtain ⟨q4, e4⟩ : ∃ q, q = q3.alloc (.cells (List.replicate T (Value.slice none 0 0)).toArray 22) := ⟨_, rfl⟩
            have HB4 := Lib.hid (show Below w1.heap.size w1 q4 by rw [e4]; exact HB3.out.alloc HB3.out.size _)
            have HU4 := Lib.hid (show Below q3.heap.size q3 q4 by rw [e4]; exact (Below.refl _ _).alloc (Nat.le_refl _) _)
            have HGM24 := Lib.hid (Got.new HB3.out e4)
            have HGAL4 := Lib.hid (HGAL3.out.below HU4.out)
            have HGM4 := Lib.hid (HGM3.out.below HU4.out)
            refine AnyT.yield (i := 10) (d := some 19) (v := .slice (some ⟨q3.heap.size, 0, none⟩) T T) (w' := q4) rfl rfl rfl (by rw [e4]; go_simp) (fun _ => HSS.out q4 HB4.out) ?_
            clear e4
            simp only [Act.put, List.setIfInBounds_toArray, List.set_cons_zero, List.set_cons_succ]
            have F4 := HSS.out q4 HB4.out
            refine AnyT.takeD (i := 11) (d := some 20) (v := mvv A L c pA n pc q1.heap.size S q3.heap.size T 0 0) rfl rfl (by kernel_rfl) (by kernel_rfl) (by kernel_rfl) (by kernel_rfl) (fun _ _ _ h => h) (Or.inl ⟨by rfl, fun wz _ => by go_simp⟩) F4 ?_
            simp only [Act.put, List.setIfInBounds_toArray, List.set_cons_zero, List.set_cons_succ]
            clear F4
            have HFN := Lib.hid (mach_new HGM4.out HGM24.out HGAL4.out (Nat.ne_of_lt HGM3.out.lt) (Nat.ne_of_gt HGAL1.out.lt) (Nat.ne_of_gt HGAL3.out.lt) HB4.out A L c pA n pc)
            obtain ⟨⟨x0, x1, x2, x3, x4, x5⟩, xf⟩ := zero6 HGAL4.out.at_
            have xf0 := xf 0
            have xf1 := xf 1
            have xf2 := xf 2
            have xf3 := xf 3
            have xf4 := xf 4
            have xf5 := xf 5
            clear xf
            refine AnyT.branch (rs := [13]) (by kernel_rfl) (by simp) ?_
            refine all_cons (?_) all_nil
            refine AnyT.step (i := 13) rfl (fun KK hK => ?_)
            go_simp
            refine hK.out _ _ (fun h => absurd h (by decide)) ?_
            clear hK KK x0 x1 x2 x3 x4 x5 xf0 xf1 xf2 xf3 xf4 xf5
            refine AnyT.done_ (by kernel_rfl) ?_ _
            go_wp2_with fail
            go_meet
            case rel => exact ⟨_, _, _, _, rfl, HFN⟩
      · refine AnyT.enter (i := 9) (d := some 18) (f := 66) (args := #[.slice A L c]) rfl rfl rfl (by have F1 := HSS.out q1 HB1.out; obtain ⟨z0, z1, z2⟩ := F1; go_simp) (HTC.out q1 (HIR.out q1 HB1.out)) ?_
        rintro e q2 ⟨rfl, bz⟩
        have HB2 := Lib.hid (HB1.out.trans (bz.mono HB1.out.size))
        have HGAL2 := Lib.hid (HGAL1.out.below bz)
        clear bz
        refine ⟨_, rfl, fun _ => HSS.out q2 HB2.out, ?_⟩
        simp only [Act.put, List.setIfInBounds_toArray, List.set_cons_zero, List.set_cons_succ]
        refine AnyT.branch (rs := [6, 10]) (by kernel_rfl) (by simp) ?_
        refine (all_cons ?_ (all_cons ?_ all_nil))
        · obtain ⟨q3, e3⟩ : ∃ q, q = q2.alloc (.cells (List.replicate S (Value.slice none 0 0)).toArray 22) := ⟨_, rfl⟩
          have HB3 := Lib.hid (show Below w1.heap.size w1 q3 by rw [e3]; exact HB2.out.alloc HB2.out.size _)
          have HU3 := Lib.hid (show Below q2.heap.size q2 q3 by rw [e3]; exact (Below.refl _ _).alloc (Nat.le_refl _) _)
          have HGM3 := Lib.hid (Got.new HB2.out e3)
          have HGAL3 := Lib.hid (HGAL2.out.below HU3.out)
          refine AnyT.yield (i := 6) (d := some 15) (v := .slice (some ⟨q2.heap.size, 0, none⟩) S S) (w' := q3) rfl rfl rfl (by rw [e3]; go_simp) (fun _ => HSS.out q3 HB3.out) ?_
          clear e3
          simp only [Act.put, List.setIfInBounds_toArray, List.set_cons_zero, List.set_cons_succ]
          refine AnyT.branch (rs := [10]) (by kernel_rfl) (by simp) ?_
          refine (all_cons ?_ all_nil)
          · obtain ⟨q4, e4⟩ : ∃ q, q = q3.alloc (.cells (List.replicate T (Value.slice none 0 0)).toArray 22) := ⟨_, rfl⟩
            have HB4 := Lib.hid (show Below w1.heap.size w1 q4 by rw [e4]; exact HB3.out.alloc HB3.out.size _)
            have HU4 := Lib.hid (show Below q3.heap.size q3 q4 by rw [e4]; exact (Below.refl _ _).alloc (Nat.le_refl _) _)
            have HGM24 := Lib.hid (Got.new HB3.out e4)
            have HGAL4 := Lib.hid (HGAL3.out.below HU4.out)
            have HGM4 := Lib.hid (HGM3.out.below HU4.out)
            refine AnyT.yield (i := 10) (d := some 19) (v := .slice (some ⟨q3.heap.size, 0, none⟩) T T) (w' := q4) rfl rfl rfl (by rw [e4]; go_simp) (fun _ => HSS.out q4 HB4.out) ?_
            clear e4
            simp only [Act.put, List.setIfInBounds_toArray, List.set_cons_zero, List.set_cons_succ]
            have F4 := HSS.out q4 HB4.out
            refine AnyT.takeD (i := 11) (d := some 20) (v := mvv A L c pA n pc q2.heap.size S q3.heap.size T 0 0) rfl rfl (by kernel_rfl) (by kernel_rfl) (by kernel_rfl) (by kernel_rfl) (fun _ _ _ h => h) (Or.inl ⟨by rfl, fun wz _ => by go_simp⟩) F4 ?_
            simp only [Act.put, List.setIfInBounds_toArray, List.set_cons_zero, List.set_cons_succ]
            clear F4
            have HFN := Lib.hid (mach_new HGM4.out HGM24.out HGAL4.out (Nat.ne_of_lt HGM3.out.lt) (Nat.ne_of_gt HGAL2.out.lt) (Nat.ne_of_gt HGAL3.out.lt) HB4.out A L c pA n pc)
            obtain ⟨⟨x0, x1, x2, x3, x4, x5⟩, xf⟩ := zero6 HGAL4.out.at_
            have xf0 := xf 0
            have xf1 := xf 1
            have xf2 := xf 2
            have xf3 := xf 3
            have xf4 := xf 4
            have xf5 := xf 5
            clear xf
            refine AnyT.branch (rs := [13]) (by kernel_rfl) (by simp) ?_
            refine all_cons (?_) all_nil
            refine AnyT.step (i := 13) rfl (fun KK hK => ?_)
            go_simp
            refine hK.out _ _ (fun h => absurd h (by decide)) ?_
            clear hK KK x0 x1 x2 x3 x4 x5 xf0 xf1 xf2 xf3 xf4 xf5
            refine AnyT.done_ (by kernel_rfl) ?_ _
            go_wp2_with fail
            go_meet
            case rel => exact ⟨_, _, _, _, rfl, HFN⟩
        · obtain ⟨q3, e3⟩ : ∃ q, q = q2.alloc (.cells (List.replicate T (Value.slice none 0 0)).toArray 22) := ⟨_, rfl⟩
          have HB3 := Lib.hid (show Below w1.heap.size w1 q3 by rw [e3]; exact HB2.out.alloc HB2.out.size _)
          have HU3 := Lib.hid (show Below q2.heap.size q2 q3 by rw [e3]; exact (Below.refl _ _).alloc (Nat.le_refl _) _)
          have HGM23 := Lib.hid (Got.new HB2.out e3)
          have HGAL3 := Lib.hid (HGAL2.out.below HU3.out)
          refine AnyT.yield (i := 10) (d := some 19) (v := .slice (some ⟨q2.heap.size, 0, none⟩) T T) (w' := q3) rfl rfl rfl (by rw [e3]; go_simp) (fun _ => HSS.out q3 HB3.out) ?_
          clear e3
          simp only [Act.put, List.setIfInBounds_toArray, List.set_cons_zero, List.set_cons_succ]
          refine AnyT.branch (rs := [6]) (by kernel_rfl) (by simp) ?_
          refine (all_cons ?_ all_nil)
          · obtain ⟨q4, e4⟩ : ∃ q, q = q3.alloc (.cells (List.replicate S (Value.slice none 0 0)).toArray 22) := ⟨_, rfl⟩
            have HB4 := Lib.hid (show Below w1.heap.size w1 q4 by rw [e4]; exact HB3.out.alloc HB3.out.size _)
            have HU4 := Lib.hid (show Below q3.heap.size q3 q4 by rw [e4]; exact (Below.refl _ _).alloc (Nat.le_refl _) _)
            have HGM4 := Lib.hid (Got.new HB3.out e4)
            have HGAL4 := Lib.hid (HGAL3.out.below HU4.out)
            have HGM24 := Lib.hid (HGM23.out.below HU4.out)
            refine AnyT.yield (i := 6) (d := some 15) (v := .slice (some ⟨q3.heap.size, 0, none⟩) S S) (w' := q4) rfl rfl rfl (by rw [e4]; go_simp) (fun _ => HSS.out q4 HB4.out) ?_
            clear e4
            simp only [Act.put, List.setIfInBounds_toArray, List.set_cons_zero, List.set_cons_succ]
            have F4 := HSS.out q4 HB4.out
            refine AnyT.takeD (i := 11) (d := some 20) (v := mvv A L c pA n pc q3.heap.size S q2.heap.size T 0 0) rfl rfl (by kernel_rfl) (by kernel_rfl) (by kernel_rfl) (by kernel_rfl) (fun _ _ _ h => h) (Or.inl ⟨by rfl, fun wz _ => by go_simp⟩) F4 ?_
            simp only [Act.put, List.setIfInBounds_toArray, List.set_cons_zero, List.set_cons_succ]
            clear F4
            have HFN := Lib.hid (mach_new HGM4.out HGM24.out HGAL4.out (Nat.ne_of_gt HGM23.out.lt) (Nat.ne_of_gt HGAL3.out.lt) (Nat.ne_of_gt HGAL2.out.lt) HB4.out A L c pA n pc)
            obtain ⟨⟨x0, x1, x2, x3, x4, x5⟩, xf⟩ := zero6 HGAL4.out.at_
            have xf0 := xf 0
            have xf1 := xf 1
            have xf2 := xf 2
            have xf3 := xf 3
            have xf4 := xf 4
            have xf5 := xf 5
            clear xf
            refine AnyT.branch (rs := [13]) (by kernel_rfl) (by simp) ?_
            refine all_cons (?_) all_nil
            refine AnyT.step (i := 13) rfl (fun KK hK => ?_)
            go_simp
            refine hK.out _ _ (fun h => absurd h (by decide)) ?_
            clear hK KK x0 x1 x2 x3 x4 x5 xf0 xf1 xf2 xf3 xf4 xf5
            refine AnyT.done_ (by kernel_rfl) ?_ _
            go_wp2_with fail
            go_meet
            case rel => exact ⟨_, _, _, _, rfl, HFN⟩
    -- TAKEN T1
  case rest =>
    obtain ⟨b, gs, gt, base, rfl, hms⟩ := hcut
    have hs := hms.out
    have M0 := Lib.hid (show MB wc b A L c pA n pc gs S gt T (mM S l.length (cdN v) (rdN l) 0 : Int) (mP S l.length (cdN v) (rdN l) 0 : Int) from hs.box)
    have T0 := Lib.hid (show Two (fun k => k < w1.heap.size ∨ k = b) wc gs gt base (mS S l.length (cdN v) (rdN l) 0) (mT S l.length T (cdN v) (rdN l) (tnN l) 0) from hs.two)
    have K0 := Lib.hid hs.bel
    have HLE := Lib.hid hs.le
    have HRW := Lib.hid (show Row .i64 w1 w1.heap.size A (flatI l) ∧ Row .i64 w1 w1.heap.size pA v from ⟨(H.out.below HB.out).row, HQ.out.below HB.out⟩)
    clear hs hms
    go_wp2_with fail
    go_loopw [23] (fun iv wr => ∃ t : Nat, t ≤ last + 1 ∧ iv = .int .i64 (t : Int) ∧ Hid (MB wr b A L c pA n pc gs S gt T (mM S l.length (cdN v) (rdN l) t : Int) (mP S l.length (cdN v) (rdN l) t : Int)) ∧ Hid (Two (fun k => k < w1.heap.size ∨ k = b) wr gs gt base (mS S l.length (cdN v) (rdN l) t) (mT S l.length T (cdN v) (rdN l) (tnN l) t)) ∧ Hid (Below w1.heap.size w1 wr)) (fun iv _ => last + 1 - (intOf iv).toNat)
    case atStart => exact ⟨0, by omega, rfl, M0, T0, K0⟩
    case round =>
      clear M0 T0 K0
      obtain ⟨t, ht, rfl, M, Z, K⟩ := hrel
      by_cases hlt : t < last + 1
      · have hti : (t : Int) < (last : Int) + 1 := by omega
        have HPU := Lib.hid (push_any (fun k => k < w1.heap.size ∨ k = b) l wt S v HPL.out A c L HL.out pA n pc gs gt T base b t w1.heap.size wr (fun k hk => Or.inl hk) (HRW.out.1.under K.out) (HRW.out.2.under K.out) HN.out M.out Z.out (Or.inr rfl) HTT.out (by omega))
        go_wp2_with fail
        refine HPU.out.mono ?_
        rintro e w2 ⟨rfl, hpp⟩
        have HZ2 := Lib.hid hpp.1
        have HM2 := Lib.hid hpp.2.1
        have HK2 := Lib.hid (K.out.trans (hpp.2.2.below (B := w1.heap.size) (fun i hi => ⟨Or.inl hi, by have := HLE.out.2.2; omega⟩)))
        clear HPU hpp M Z K
        go_wp2_with fail
        go_roundw
        case rel => exact ⟨t + 1, by omega, by go_num, HM2, HZ2, HK2⟩
        case measure => simp [intOf]; omega
      · have htl : t = last + 1 := by omega
        subst htl
        have hni : ¬ (last : Int) + 1 < (last : Int) + 1 := by omega
        obtain ⟨rr, hrr⟩ : ∃ r, r = b0 + 2 := ⟨_, rfl⟩
        rw [← hrr] at HR ⊢
        have hrl : rr < w1.heap.size := by rw [HSZ.out]; omega
        have HRC := Lib.hid (show (wr.cell? ⟨rr, 0, none⟩ = some (.slice none 0 0) ∧ wr.cell? ⟨rr, 1, none⟩ = some (.slice none 0 0) ∧ wr.cell? ⟨rr, 2, none⟩ = some (.slice none 0 0) ∧ wr.cell? ⟨rr, 3, none⟩ = some (.slice none 0 0) ∧ wr.cell? ⟨rr, 4, none⟩ = some (.int .i64 0) ∧ wr.cell? ⟨rr, 5, none⟩ = some (.int .i64 0)) ∧ ∀ j, wr.frozen? ⟨rr, j, none⟩ = false by
          obtain ⟨⟨z0, z1, z2, z3, z4, z5⟩, zf⟩ := HR.out
          exact ⟨⟨(K.out.cell (p := ⟨rr, 0, none⟩) hrl).trans z0, (K.out.cell (p := ⟨rr, 1, none⟩) hrl).trans z1, (K.out.cell (p := ⟨rr, 2, none⟩) hrl).trans z2, (K.out.cell (p := ⟨rr, 3, none⟩) hrl).trans z3, (K.out.cell (p := ⟨rr, 4, none⟩) hrl).trans z4, (K.out.cell (p := ⟨rr, 5, none⟩) hrl).trans z5⟩, fun j => (K.out.frozen (p := ⟨rr, j, none⟩) hrl).trans (zf j)⟩)
        obtain ⟨mv, hmv⟩ : ∃ x, x = (mM S l.length (cdN v) (rdN l) (last + 1) : Int) := ⟨_, rfl⟩
        obtain ⟨pu, hpu⟩ : ∃ x, x = (mP S l.length (cdN v) (rdN l) (last + 1) : Int) := ⟨_, rfl⟩
        rw [← hmv, ← hpu] at M
        have HMV := Lib.hid hmv
        have HPU := Lib.hid hpu
        have HRR := Lib.hid hrr
        obtain ⟨m0, m1, m2, m3, m4, m5, mf, mlt⟩ := M.out
        obtain ⟨⟨z0, z1, z2, z3, z4, z5⟩, zf⟩ := HRC.out
        have zf0 := zf 0
        have zf1 := zf 1
        have zf2 := zf 2
        have zf3 := zf 3
        have zf4 := zf 4
        have zf5 := zf 5
        have HW := Lib.hid (put6_cells z0 z1 z2 z3 z4 z5 (.slice A L c) (.slice pA n pc) (.slice (some ⟨gs, 0, none⟩) S S) (.slice (some ⟨gt, 0, none⟩) T T) (.int .i64 mv) (.int .i64 pu))
        have HZF := Lib.hid (show Two (fun k => k < w1.heap.size) (put6 wr rr (.slice A L c) (.slice pA n pc) (.slice (some ⟨gs, 0, none⟩) S S) (.slice (some ⟨gt, 0, none⟩) T T) (.int .i64 mv) (.int .i64 pu)) gs gt base _ _ from
          ((((((Z.out.weak (G := fun k => k < w1.heap.size) (fun i hi => Or.inl hi)).setF (p := ⟨rr, 0, none⟩) hrl _).setF (p := ⟨rr, 1, none⟩) hrl _).setF (p := ⟨rr, 2, none⟩) hrl _).setF (p := ⟨rr, 3, none⟩) hrl _).setF (p := ⟨rr, 4, none⟩) hrl _).setF (p := ⟨rr, 5, none⟩) hrl _)
        have HBF := Lib.hid (put6_below (HB.out.trans (K.out.mono HB.out.size)) (b := rr) (by have := HRR.out; have := HB00.out; omega) (.slice A L c) (.slice pA n pc) (.slice (some ⟨gs, 0, none⟩) S S) (.slice (some ⟨gt, 0, none⟩) T T) (.int .i64 mv) (.int .i64 pu))
        clear hmv hpu hrr zf mf M Z K hlt ht
        go_wp2_with fail
        obtain ⟨y0, y1, y2, y3, y4, y5⟩ := HW.out
        refine bodyPost_ret (results_mach rfl _ _ rr _ _ _ _ _ _ rfl y0 y1 y2 y3 y4 y5) rfl ?_
        refine ⟨gs, gt, base, by rw [← HMV.out, ← HPU.out], HZF.out.weak (fun i hi => Nat.lt_of_lt_of_le hi HB.out.size), HBF.out, Nat.le_trans HB.out.size HLE.out.1, Nat.le_trans HB.out.size HLE.out.2.1⟩
end Go.Proofs.YtimkmieohkefiaaGreat

namespace Go.Proofs.YtimkmieohkefiaaGreat
open Go.RowKit Go.Lib

theorem val14_zero {l : List It} {wt st : Int} {v : List Int} (h : val14 l wt st v = 0) : ∃ S : Nat, st = (S : Int) ∧ Pl l wt S v := by
  unfold val14 at h
  by_cases h1 : validR l wt = 0
  · rw [if_pos h1] at h
    by_cases h2 : fitB l wt st v = true
    · have := (fitB_iff.1 h2).1
      obtain ⟨S, rfl⟩ := Int.eq_ofNat_of_zero_le this.1
      exact ⟨S, rfl, h1, h2⟩
    · rw [if_neg h2] at h; omega
  · rw [if_neg h1] at h; exact absurd h h1
theorem Pl.val14 {l : List It} {wt : Int} {S : Nat} {v : List Int} (h : Pl l wt S v) : val14 l wt (S : Int) v = 0 := by
  unfold Go.Proofs.YtimkmieohkefiaaGreat.val14; rw [if_pos h.val, if_pos h.fit]
/-- What Run leaves: the tracks of the trains, the moves, and the error. -/
structure RunL (l : List It) (S : Nat) (v : List Int) (w w' : World) (gt : Nat) : Prop where
  pp : PP w' (some ⟨gt, 0, none⟩) ((mT S l.length (tnT l) (cdN v) (rdN l) (tnN l) (S + 1)).map toZ)
  bel : Below w.heap.size w w'
  le : w.heap.size ≤ gt ∧ gt < w'.heap.size
abbrev srtv (A : Option Addr) (n c : Nat) (mv : Int) : Value := .agg #[.slice A n c, .int .i64 mv]
def RunPost (l : List It) (wt st : Int) (v : List Int) (w : World) (e : Ending) (w' : World) : Prop :=
  (val14 l wt st v ≠ 0 ∧ e = .returned (.tuple #[srtv none 0 0 0, .int .i64 (val14 l wt st v)]) ∧ Below w.heap.size w w') ∨
  (val14 l wt st v = 0 ∧ ∃ S gt, st = ((S : Nat) : Int) ∧ Pl l wt S v ∧ e = .returned (.tuple #[srtv (some ⟨gt, 0, none⟩) (tnT l) (tnT l) (mM S l.length (cdN v) (rdN l) (S + 1) : Int), .int .i64 0]) ∧ RunL l S v w w' gt)
theorem results_srt {fn : Func} (hf : fn.results = #[.cell 4 79, .tmp 5]) (tmps : Array Value) (w : World) (b : Nat) (A : Option Addr) (n c : Nat) (mv er : Int) (h2 : tmps.getD 4 undef = .pointer (some ⟨b, 0, none⟩)) (h3 : tmps.getD 5 undef = .int .i64 er) (c0 : w.cell? ⟨b, 0, none⟩ = some (.slice A n c)) (c1 : w.cell? ⟨b, 1, none⟩ = some (.int .i64 mv)) :
    (results fn tmps).run Tryz.prog w = .ok (.tuple #[srtv A n c mv, .int .i64 er]) w := by
  have h2' : tmps[4]?.getD undef = .pointer (some ⟨b, 0, none⟩) := by simpa using h2
  have h3' : tmps[5]?.getD undef = .int .i64 er := by simpa using h3
  simp [results, hf, go_sem, h2', h3', c0, c1, asAddr]
theorem PP.setB {w : World} {A : Option Addr} {ps : List (List Int)} {B : Nat} (h : PP w A ps) {p : Addr} (hp : p.block < B) (hA : ∀ ad, A = some ad → B ≤ ad.block) (hr : ∀ (k : Nat) q, ps[k]? = some q → ∀ ad, A = some ad → ∀ a c, w.cell? (ad.add k) = some (.slice a q.length c) → ∀ x, a = some x → B ≤ x.block) (u : Value) : PP (w.setCell p u) A ps := fun k q hk => by
  obtain ⟨ad, rfl, hb, a, c, hc, hrr, hm⟩ := h k q hk
  have ha := hA ad rfl
  refine ⟨ad, rfl, by rw [World.size_setCell]; exact hb, a, c, ?_, fun j hj => ?_, hm⟩
  · rw [World.cell?_setCell_other _ _ _ _ (fun e => by have := congrArg Addr.block e; rw [add_block] at this; omega)]; exact hc
  · obtain ⟨x, rfl, hx, hv⟩ := hrr j hj
    have := hr k q hk ad rfl _ _ hc x rfl
    exact ⟨x, rfl, by rw [World.size_setCell]; exact hx, by rw [World.cell?_setCell_other _ _ _ _ (fun e => by have := congrArg Addr.block e; rw [add_block] at this; omega)]; exact hv⟩
set_option maxRecDepth 100000 in
set_option maxHeartbeats 3200000 in
theorem run_any (l : List It) (A : Option Addr) (c L : Nat) (wt st : Int) (v : List Int) (pA : Option Addr) (n pc : Nat) (hL : L = l.length) (hn : n = v.length) (w : World) (h : IRow w A l) (hp : Row .i64 w w.heap.size pA v) (hm : v.length ≤ maxLen) :
    Calls Tryz.prog 36 #[jv A L c wt, pv st pA n pc] w (RunPost l wt st v w) := by
  obtain ⟨HJ0, HP0, HB0⟩ := pbox2 w A L c wt st pA n pc
  have BX := (Below.refl _ ((w.alloc (.cells #[.slice A L c, .int .i64 wt] 37)).alloc (.cells #[.int .i64 st, .slice pA n pc] 39))).alloc (Nat.le_refl _) (.cells #[.slice none 0 0, .int .i64 0] 79)
  have e2 : ((w.alloc (.cells #[.slice A L c, .int .i64 wt] 37)).alloc (.cells #[.int .i64 st, .slice pA n pc] 39)).heap.size = w.heap.size + 2 := by simp
  have hat := heap_alloc_new ((w.alloc (.cells #[.slice A L c, .int .i64 wt] 37)).alloc (.cells #[.int .i64 st, .slice pA n pc] 39)) (.cells #[.slice none 0 0, .int .i64 0] 79)
  rw [e2] at hat
  have HR := Lib.hid hat
  have HJ := Lib.hid (HJ0.below BX HJ0.lt)
  have HP := Lib.hid (HP0.below BX HP0.lt)
  have HB := Lib.hid (HB0.trans (BX.mono HB0.size))
  have HSZ := Lib.hid (show (((w.alloc (.cells #[.slice A L c, .int .i64 wt] 37)).alloc (.cells #[.int .i64 st, .slice pA n pc] 39)).alloc (.cells #[.slice none 0 0, .int .i64 0] 79)).heap.size = w.heap.size + 3 by simp)
  have H := Lib.hid h
  have HQ := Lib.hid hp
  have HV := Lib.hid (fun (W : World) (k : IRow W A l) (q : Row .i64 W W.heap.size pA v) => val14_any l A c L wt st v pA n pc hL hn W k q hm)
  have HMC := Lib.hid (fun (S last : Nat) (hpl : Pl l wt S v) (hl : last ≤ S) (W : World) (k : IRow W A l) (q : Row .i64 W W.heap.size pA v) => mach_any l wt S v hpl A c L hL pA n pc (tnT l) last hn rfl hl W k q)
  clear h hp HJ0 HP0 HB0 hm hL hn BX e2 hat
  obtain ⟨b, hb⟩ : ∃ b, b = w.heap.size := ⟨_, rfl⟩
  have HBB := Lib.hid hb
  go_enter Tryz.func36, Tryz.ntmps36
  go_upto_region 1 with fail
  rw [← hb] at HJ HP HR HSZ ⊢
  generalize ((w.alloc (.cells #[.slice A L c, .int .i64 wt] 37)).alloc (.cells #[.int .i64 st, .slice pA n pc] 39)).alloc (.cells #[.slice none 0 0, .int .i64 0] 79) = w1 at *
  clear hb
  obtain ⟨j0, j1, jl⟩ := HJ.out
  obtain ⟨p0, p1, -, pl⟩ := HP.out
  go_wp2_with fail
  refine (HV.out w1 (H.out.below HB.out) (HQ.out.below HB.out)).mono ?_
  rintro e w2 ⟨rfl, B2⟩
  have HJ2 := Lib.hid (HJ.out.below B2 HJ.out.lt)
  have HP2 := Lib.hid (HP.out.below B2 HP.out.lt)
  have HB2 := Lib.hid (HB.out.trans (B2.mono HB.out.size))
  obtain ⟨rr, hrr⟩ : ∃ r, r = b + 2 := ⟨_, rfl⟩
  rw [← hrr] at HR ⊢
  have HRR := Lib.hid hrr
  have HRL := Lib.hid (show rr < w1.heap.size by rw [HSZ.out]; omega)
  have HR2 := Lib.hid ((B2.block rr HRL.out).trans HR.out)
  have HS2 := Lib.hid B2.size
  clear B2 j0 j1 jl p0 p1 pl HJ HP HB HV HR hrr
  obtain ⟨j0, j1, jl⟩ := HJ2.out
  obtain ⟨p0, p1, -, pl⟩ := HP2.out
  by_cases hv : val14 l wt st v = 0
  · rw [hv]
    obtain ⟨S, rfl, hpl⟩ := val14_zero hv
    have HPL := Lib.hid hpl
    have HV0 := Lib.hid hv
    clear hv hpl
    go_wp2_with fail
    refine (HMC.out S S HPL.out (Nat.le_refl _) w2 (H.out.below HB2.out) (HQ.out.below HB2.out)).mono ?_
    rintro e w3 ⟨gs, gt, base, rfl, Z, B3, le1, le2⟩
    obtain ⟨mv, hmv⟩ : ∃ x, x = (mM S l.length (cdN v) (rdN l) (S + 1) : Int) := ⟨_, rfl⟩
    obtain ⟨pu, hpu⟩ : ∃ x, x = (mP S l.length (cdN v) (rdN l) (S + 1) : Int) := ⟨_, rfl⟩
    rw [← hmv, ← hpu]
    have HMV := Lib.hid hmv
    clear hmv hpu
    obtain ⟨T, hT⟩ : ∃ T, T = tnT l := ⟨_, rfl⟩
    have BX := (Below.refl w3.heap.size w3).alloc (Nat.le_refl _) (.cells #[.slice A L c, .slice pA n pc, .slice (some ⟨gs, 0, none⟩) S S, .slice (some ⟨gt, 0, none⟩) T T, .int .i64 mv, .int .i64 pu] 122)
    rw [← hT]
    have HT := Lib.hid hT
    have hrl3 : rr < w3.heap.size := by have := HRL.out; have := HS2.out; have := B3.size; omega
    have HR4 := Lib.hid ((BX.block rr hrl3).trans ((B3.block rr (by have := HRL.out; have := HS2.out; omega)).trans HR2.out))
    have HZ4 := Lib.hid (Z.below BX)
    have HB4 := Lib.hid ((HB2.out.trans (B3.mono HB2.out.size)).trans (BX.mono (Nat.le_trans HB2.out.size B3.size)))
    have HLE := Lib.hid (show w2.heap.size ≤ gs ∧ w2.heap.size ≤ gt from ⟨le1, le2⟩)
    have c3 : (w3.alloc (.cells #[.slice A L c, .slice pA n pc, .slice (some ⟨gs, 0, none⟩) S S, .slice (some ⟨gt, 0, none⟩) T T, .int .i64 mv, .int .i64 pu] 122)).cell? ⟨w3.heap.size, 3, none⟩ = some (.slice (some ⟨gt, 0, none⟩) T T) := by rw [cell_new]; rfl
    have c4 : (w3.alloc (.cells #[.slice A L c, .slice pA n pc, .slice (some ⟨gs, 0, none⟩) S S, .slice (some ⟨gt, 0, none⟩) T T, .int .i64 mv, .int .i64 pu] 122)).cell? ⟨w3.heap.size, 4, none⟩ = some (.int .i64 mv) := by rw [cell_new]; rfl
    clear Z B3 le1 le2 hT BX j0 j1 p0 p1 jl pl hrl3
    go_upto_region 5 with fail
    generalize w3.heap.size = hb at *
    generalize w3.alloc (.cells #[.slice A L c, .slice pA n pc, .slice (some ⟨gs, 0, none⟩) S S, .slice (some ⟨gt, 0, none⟩) T T, .int .i64 mv, .int .i64 pu] 122) = w4 at *
    have r0 := cell_of (j := 0) HR4.out rfl
    have r1 := cell_of (j := 1) HR4.out rfl
    have f0 := frozen_of_row w4 rr 0 _ _ HR4.out
    have f1 := frozen_of_row w4 rr 1 _ _ HR4.out
    have g0 : (((w4.setCell ⟨rr, 0, none⟩ (.slice (some ⟨gt, 0, none⟩) T T)).setCell ⟨rr, 1, none⟩ (.int .i64 mv))).cell? ⟨rr, 0, none⟩ = some (.slice (some ⟨gt, 0, none⟩) T T) := by
      rw [World.cell?_setCell_other _ _ _ _ (by simp)]; exact World.cell?_setCell_same _ _ _ r0
    have g1 : (((w4.setCell ⟨rr, 0, none⟩ (.slice (some ⟨gt, 0, none⟩) T T)).setCell ⟨rr, 1, none⟩ (.int .i64 mv))).cell? ⟨rr, 1, none⟩ = some (.int .i64 mv) :=
      World.cell?_setCell_same _ _ _ (by rw [World.cell?_setCell_other _ _ _ _ (by simp)]; exact r1)
    have HG := Lib.hid (And.intro g0 g1)
    have HZ6 := Lib.hid (show Two (fun k => k < w2.heap.size) ((w4.setCell ⟨rr, 0, none⟩ (.slice (some ⟨gt, 0, none⟩) T T)).setCell ⟨rr, 1, none⟩ (.int .i64 mv)) gs gt base _ _ from
      (HZ4.out.setF (p := ⟨rr, 0, none⟩) (by have := HRL.out; have := HS2.out; show rr < _; omega) _).setF (p := ⟨rr, 1, none⟩) (by have := HRL.out; have := HS2.out; show rr < _; omega) _)
    have HB6 := Lib.hid (((HB4.out.setCell (p := ⟨rr, 0, none⟩) (by have := HRR.out; have := HBB.out; show _ ≤ rr; omega) (.slice (some ⟨gt, 0, none⟩) T T)).setCell (p := ⟨rr, 1, none⟩) (by have := HRR.out; have := HBB.out; show _ ≤ rr; omega) (.int .i64 mv)))
    clear g0 g1
    go_wp2_with fail
    refine bodyPost_ret (results_srt rfl _ _ rr _ _ _ _ _ rfl rfl HG.out.1 HG.out.2) rfl ?_
    refine Or.inr ⟨HV0.out, S, gt, rfl, HPL.out, by rw [← HT.out, ← HMV.out], ?_⟩
    exact ⟨HZ6.out.ppt, HB6.out, Nat.le_trans HB2.out.size HLE.out.2, HZ6.out.ltt.1⟩
  · have hne : (val14 l wt st v != 0) = true := bne_iff_ne.2 hv
    have HV := Lib.hid hv
    have r0 := cell_of (j := 0) HR2.out rfl
    have r1 := cell_of (j := 1) HR2.out rfl
    have f0 := frozen_of_row w2 rr 0 _ _ HR2.out
    have f1 := frozen_of_row w2 rr 1 _ _ HR2.out
    have g0 : (((w2.setCell ⟨rr, 0, none⟩ (.slice none 0 0)).setCell ⟨rr, 1, none⟩ (.int .i64 0))).cell? ⟨rr, 0, none⟩ = some (.slice none 0 0) := by
      rw [World.cell?_setCell_other _ _ _ _ (by simp)]; exact World.cell?_setCell_same _ _ _ r0
    have g1 : (((w2.setCell ⟨rr, 0, none⟩ (.slice none 0 0)).setCell ⟨rr, 1, none⟩ (.int .i64 0))).cell? ⟨rr, 1, none⟩ = some (.int .i64 0) :=
      World.cell?_setCell_same _ _ _ (by rw [World.cell?_setCell_other _ _ _ _ (by simp)]; exact r1)
    have HG := Lib.hid (And.intro g0 g1)
    have HB6 := Lib.hid (((HB2.out.setCell (p := ⟨rr, 0, none⟩) (by have := HRR.out; have := HBB.out; show _ ≤ rr; omega) (.slice none 0 0)).setCell (p := ⟨rr, 1, none⟩) (by have := HRR.out; have := HBB.out; show _ ≤ rr; omega) (.int .i64 0)))
    obtain ⟨er, her⟩ : ∃ er, er = val14 l wt st v := ⟨_, rfl⟩
    rw [← her] at hne ⊢
    have HER := Lib.hid her
    clear her
    clear hv HMC g0 g1 j0 j1 p0 p1 jl pl
    go_wp2_with fail
    refine bodyPost_ret (results_srt rfl _ _ rr _ _ _ _ _ rfl rfl HG.out.1 HG.out.2) rfl ?_
    exact Or.inl ⟨HV.out, by rw [HER.out], HB6.out⟩
/-- What Pushes answers. -/
def pushZ (l : List It) (wt st : Int) (v : List Int) : Int × Int := if val14 l wt st v = 0 then ((mP st.toNat l.length (cdN v) (rdN l) (st.toNat + 1) : Int), 0) else (0, val14 l wt st v)
set_option maxRecDepth 100000 in
set_option maxHeartbeats 3200000 in
theorem pushes_any (l : List It) (A : Option Addr) (c L : Nat) (wt st : Int) (v : List Int) (pA : Option Addr) (n pc : Nat) (hL : L = l.length) (hn : n = v.length) (w : World) (h : IRow w A l) (hp : Row .i64 w w.heap.size pA v) (hm : v.length ≤ maxLen) :
    Calls Tryz.prog 37 #[jv A L c wt, pv st pA n pc] w fun e w' => e = .returned (R2 (pushZ l wt st v)) ∧ Below w.heap.size w w' := by
  obtain ⟨HJ0, HP0, HB0⟩ := pbox2 w A L c wt st pA n pc
  have HJ := Lib.hid HJ0
  have HP := Lib.hid HP0
  have HB := Lib.hid HB0
  have H := Lib.hid h
  have HQ := Lib.hid hp
  have HV := Lib.hid (fun (W : World) (k : IRow W A l) (q : Row .i64 W W.heap.size pA v) => val14_any l A c L wt st v pA n pc hL hn W k q hm)
  have HMC := Lib.hid (fun (S last : Nat) (hpl : Pl l wt S v) (hl : last ≤ S) (W : World) (k : IRow W A l) (q : Row .i64 W W.heap.size pA v) => mach_any l wt S v hpl A c L hL pA n pc (tnT l) last hn rfl hl W k q)
  clear h hp HJ0 HP0 HB0 hm hL hn
  obtain ⟨b, hb⟩ : ∃ b, b = w.heap.size := ⟨_, rfl⟩
  go_enter Tryz.func37, Tryz.ntmps37
  go_upto_region 1 with fail
  rw [← hb] at HJ HP ⊢
  generalize (w.alloc (.cells #[.slice A L c, .int .i64 wt] 37)).alloc (.cells #[.int .i64 st, .slice pA n pc] 39) = w1 at *
  clear hb
  obtain ⟨j0, j1, jl⟩ := HJ.out
  obtain ⟨p0, p1, -, pl⟩ := HP.out
  go_wp2_with fail
  refine (HV.out w1 (H.out.below HB.out) (HQ.out.below HB.out)).mono ?_
  rintro e w2 ⟨rfl, B2⟩
  have HJ2 := Lib.hid (HJ.out.below B2 HJ.out.lt)
  have HP2 := Lib.hid (HP.out.below B2 HP.out.lt)
  have HB2 := Lib.hid (HB.out.trans (B2.mono HB.out.size))
  clear B2 j0 j1 jl p0 p1 pl HJ HP HB HV
  obtain ⟨j0, j1, jl⟩ := HJ2.out
  obtain ⟨p0, p1, -, pl⟩ := HP2.out
  by_cases hv : val14 l wt st v = 0
  · rw [hv]
    obtain ⟨S, rfl, hpl⟩ := val14_zero hv
    have HE := Lib.hid (show pushZ l wt (S : Int) v = ((mP S l.length (cdN v) (rdN l) (S + 1) : Int), 0) by unfold pushZ; rw [if_pos hv]; rfl)
    have HPL := Lib.hid hpl
    clear hv hpl
    go_wp2_with fail
    refine (HMC.out S S HPL.out (Nat.le_refl _) w2 (H.out.below HB2.out) (HQ.out.below HB2.out)).mono ?_
    rintro e w3 ⟨gs, gt, base, rfl, Z, B3, le1, le2⟩
    obtain ⟨mv, hmv⟩ : ∃ x, x = (mM S l.length (cdN v) (rdN l) (S + 1) : Int) := ⟨_, rfl⟩
    obtain ⟨pu, hpu⟩ : ∃ x, x = (mP S l.length (cdN v) (rdN l) (S + 1) : Int) := ⟨_, rfl⟩
    rw [← hmv, ← hpu]
    rw [← hpu] at HE
    have HF := Lib.hid (HB2.out.trans (B3.mono HB2.out.size))
    generalize tnT l = T at *
    clear hmv hpu Z B3 le1 le2 j0 j1 p0 p1 jl pl
    have hfd : ∀ w : World, (Instr.field 122 (.agg #[.slice A L c, .slice pA n pc, .slice (some ⟨gs, 0, none⟩) S S, .slice (some ⟨gt, 0, none⟩) T T, .int .i64 mv, .int .i64 pu]) 5).run Tryz.prog w = .ok (.int .i64 pu) w := fun _ => by kernel_rfl
    dsimp only [mvv]
    go_wp2_with fail
    go_ret2
    exact ⟨ret_r2 HE.out, HF.out⟩
  · have HE := Lib.hid (show pushZ l wt st v = (0, val14 l wt st v) by unfold pushZ; rw [if_neg hv])
    have hne : (val14 l wt st v != 0) = true := bne_iff_ne.2 hv
    generalize val14 l wt st v = er at *
    clear hv HMC
    go_wp2_with fail
    go_ret2
    exact ⟨ret_r2 HE.out, HB2.out⟩
end Go.Proofs.YtimkmieohkefiaaGreat

namespace Go.Proofs.YtimkmieohkefiaaGreat
open Go.RowKit Go.Lib

def addAt (ls : List Nat) (i x : Nat) : List Nat := ls.set i (ls.getD i 0 + x)
def addL (x : Nat) (ls : List Nat) (b : Nat) : List Nat := addAt ls b x
theorem addAt_len (ls : List Nat) (i x : Nat) : (addAt ls i x).length = ls.length := by unfold addAt; rw [List.length_set]
theorem foldL_len (x : Nat) (z : List Nat) : ∀ ls, (z.foldl (addL x) ls).length = ls.length := by
  induction z with
  | nil => intro ls; rfl
  | cons b z ih => intro ls; rw [List.foldl_cons, ih]; exact addAt_len _ _ _
theorem getD_setN {ls : List Nat} {i : Nat} (h : i < ls.length) (x j : Nat) : (ls.set i x).getD j 0 = if i = j then x else ls.getD j 0 := by
  rw [List.getD_eq_getElem?_getD, List.getElem?_set]
  by_cases e : i = j
  · rw [if_pos e, if_pos h, if_pos e]; rfl
  · rw [if_neg e, if_neg e, List.getD_eq_getElem?_getD]
theorem addAt_bd {ls : List Nat} {M x i : Nat} (h : ∀ j, ls.getD j 0 ≤ M) : ∀ j, (addAt ls i x).getD j 0 ≤ M + x := by
  intro j
  unfold addAt
  by_cases g : i < ls.length
  · rw [getD_setN g]
    have := h i
    have := h j
    split <;> omega
  · rw [List.set_eq_of_length_le (by omega)]; have := h j; omega
theorem foldL_bd {x : Nat} (z : List Nat) : ∀ (M : Nat) (ls : List Nat), (∀ j, ls.getD j 0 ≤ M) → ∀ j, (z.foldl (addL x) ls).getD j 0 ≤ M + z.length * x := by
  induction z with
  | nil => intro M ls h j; have := h j; simp only [List.foldl_nil, List.length_nil]; omega
  | cons b z ih =>
    intro M ls h j
    rw [List.foldl_cons]
    have := ih (M + x) (addL x ls b) (addAt_bd h) j
    rw [List.length_cons, Nat.succ_mul]; omega
section
variable (S T : Nat) (cd rd tn ln : Nat → Nat)
/-- The loads of the first k items. -/
def ldN : Nat → List Nat
  | 0 => List.replicate (S + T) 0
  | k + 1 => addAt ((blM (cd k) (rd k) 12).foldl (addL (ln k)) (ldN k)) (S + tn k) (ln k)
end
theorem ldN_len (S T : Nat) (cd rd tn ln : Nat → Nat) : ∀ k, (ldN S T cd rd tn ln k).length = S + T := by
  intro k
  induction k with
  | zero => simp [ldN]
  | succ k ih => rw [ldN, addAt_len, foldL_len, ih]
theorem blM_len (K R b : Nat) : (blM K R b).length ≤ b := by
  have := blN_len K R b
  rw [blN_toZ, toZ_len] at this
  exact this
theorem ldN_bd {S T : Nat} {cd rd tn ln : Nat → Nat} (hl : ∀ k, ln k ≤ 400) : ∀ k, ∀ j, (ldN S T cd rd tn ln k).getD j 0 ≤ 5200 * k := by
  intro k
  induction k with
  | zero =>
    intro j
    have e : (ldN S T cd rd tn ln 0).getD j 0 = 0 := by
      show (List.replicate (S + T) 0).getD j 0 = 0
      rw [List.getD_eq_getElem?_getD, List.getElem?_replicate]; split <;> rfl
    omega
  | succ k ih =>
    intro j
    rw [ldN]
    have h1 := foldL_bd (x := ln k) (blM (cd k) (rd k) 12) _ _ ih
    have h2 := addAt_bd (x := ln k) (i := S + tn k) h1 j
    have h3 := blM_len (cd k) (rd k) 12
    have h4 := hl k
    have h5 : (blM (cd k) (rd k) 12).length * ln k ≤ 12 * 400 := Nat.mul_le_mul h3 h4
    omega
def lnN (l : List It) (x : Nat) : Nat := ((l.getD x it0).2.2.2).toNat
theorem Pl.ln {l : List It} {wt : Int} {S : Nat} {v : List Int} (h : Pl l wt S v) {x : Nat} (hx : x < l.length) : (l.getD x it0).2.2.2 = (lnN l x : Int) ∧ lnN l x ≤ 400 := by
  have := ((valid_ok h.val).2.1 _ (getD_memI hx)).2.2.2
  unfold lnN; omega
theorem Pl.lns {l : List It} {wt : Int} {S : Nat} {v : List Int} (h : Pl l wt S v) : ∀ x, lnN l x ≤ 400 := fun x => by
  by_cases g : x < l.length
  · exact (h.ln g).2
  · unfold lnN; rw [List.getD_eq_getElem?_getD, List.getElem?_eq_none (by omega)]; decide
def loadL (l : List It) (wt st : Int) (v : List Int) : List Int := if val14 l wt st v = 0 then toZ (ldN st.toNat (tnT l) (cdN v) (rdN l) (tnN l) (lnN l) l.length) else []
theorem toZ_set (z : List Nat) (i x : Nat) : (toZ z).set i (x : Int) = toZ (z.set i x) := by unfold toZ; rw [List.map_set]
theorem toZ_rep (n : Nat) : List.replicate n (0 : Int) = toZ (List.replicate n 0) := by unfold toZ; rw [List.map_replicate]; rfl
/-- The list of loads, in a block of its own. -/
structure LdS (w1 wr : World) (g N : Nat) (ls : List Nat) : Prop where
  own : Own .i64 3 wr w1.heap.size (.slice (some ⟨g, 0, none⟩) N N) (toZ ls)
  bel : Below w1.heap.size w1 wr
  len : N = ls.length
theorem LdS.ge {w1 wr : World} {g N : Nat} {ls : List Nat} (h : LdS w1 wr g N ls) : w1.heap.size ≤ g ∧ g < wr.heap.size := own_block h.own rfl
theorem LdS.below {w1 wr w' : World} {g N : Nat} {ls : List Nat} (h : LdS w1 wr g N ls) (k : Below wr.heap.size wr w') : LdS w1 w' g N ls := ⟨h.own.below k, h.bel.trans (k.mono h.bel.size), h.len⟩
theorem LdS.add {w1 wr : World} {g N : Nat} {ls : List Nat} (h : LdS w1 wr g N ls) (j x : Nat) : LdS w1 (wr.setCell ⟨g, j, none⟩ (.int .i64 (((ls.getD j 0 + x : Nat)) : Int))) g N (addAt ls j x) := by
  refine ⟨?_, h.bel.setCell (p := ⟨g, j, none⟩) h.ge.1 _, by rw [addAt_len]; exact h.len⟩
  have := h.own.store (by rw [toZ_len]; exact h.len) j (((ls.getD j 0 + x : Nat)) : Int)
  rw [toZ_set] at this
  exact this
theorem LdS.cell {w1 wr : World} {g N : Nat} {ls : List Nat} (h : LdS w1 wr g N ls) {j : Nat} (hj : j < N) : wr.cell? ⟨g, j, none⟩ = some (.int .i64 ((ls.getD j 0 : Nat) : Int)) := by
  have hj' : j < ls.length := by rw [← h.len]; exact hj
  rw [h.own.cell (by rw [toZ_len]; exact h.len) j (by rw [toZ_len]; exact hj'), toZ_at ls hj']
theorem LdS.frozen {w1 wr : World} {g N : Nat} {ls : List Nat} (h : LdS w1 wr g N ls) (j : Nat) : wr.frozen? ⟨g, j, none⟩ = false := h.own.frozen (by rw [toZ_len]; exact h.len) j
theorem IPl.setO {w : World} {b g : Nat} {p : It} (h : IPl w b p) (hne : g ≠ b) (j : Nat) (u : Value) : IPl (w.setCell ⟨g, j, none⟩ u) b p := by
  have o : ∀ i, (w.setCell ⟨g, j, none⟩ u).cell? ⟨b, i, none⟩ = w.cell? ⟨b, i, none⟩ := fun i => World.cell?_setCell_other _ _ _ _ (by
    intro e
    first
      | exact hne (congrArg Addr.block e)
      | exact hne (congrArg Addr.block e).symm)
  exact ⟨(o 0).trans h.c0, (o 1).trans h.c1, (o 2).trans h.c2, (o 3).trans h.c3, by rw [World.size_setCell]; exact h.lt⟩
set_option maxRecDepth 100000 in
set_option maxHeartbeats 6400000 in
theorem loads_any (l : List It) (A : Option Addr) (c L : Nat) (wt st : Int) (v : List Int) (pA : Option Addr) (n pc : Nat) (hL : L = l.length) (hn : n = v.length) (w : World) (h : IRow w A l) (hp : Row .i64 w w.heap.size pA v) (hm : v.length ≤ maxLen) :
    Calls Tryz.prog 34 #[jv A L c wt, pv st pA n pc] w fun e w' => PairPost (loadL l wt st v) (val14 l wt st v) w e w' := by
  obtain ⟨HJ0, HP0, HB0⟩ := pbox2 w A L c wt st pA n pc
  have HJ := Lib.hid HJ0
  have HP := Lib.hid HP0
  have HB := Lib.hid HB0
  have H := Lib.hid h
  have HQ := Lib.hid hp
  have HL := Lib.hid hL
  have HN := Lib.hid hn
  have HV := Lib.hid (fun (W : World) (k : IRow W A l) (q : Row .i64 W W.heap.size pA v) => val14_any l A c L wt st v pA n pc hL hn W k q hm)
  have HTC0 := Lib.hid (fun (hv : validR l wt = 0) (W : World) (k : IRow W A l) => trainCount_any l A c L hL (valid_ok hv).2.1 W k)
  clear h hp HJ0 HP0 HB0 hm hL hn
  obtain ⟨b, hb⟩ : ∃ b, b = w.heap.size := ⟨_, rfl⟩
  go_enter Tryz.func34, Tryz.ntmps34
  go_upto_region 1 with fail
  rw [← hb] at HJ HP ⊢
  generalize (w.alloc (.cells #[.slice A L c, .int .i64 wt] 37)).alloc (.cells #[.int .i64 st, .slice pA n pc] 39) = w1 at *
  clear hb
  obtain ⟨j0, j1, jl⟩ := HJ.out
  obtain ⟨p0, p1, -, pl⟩ := HP.out
  go_wp2_with fail
  refine (HV.out w1 (H.out.below HB.out) (HQ.out.below HB.out)).mono ?_
  rintro e w2 ⟨rfl, B2⟩
  have HJ2 := Lib.hid (HJ.out.below B2 HJ.out.lt)
  have HP2 := Lib.hid (HP.out.below B2 HP.out.lt)
  have HB2 := Lib.hid (HB.out.trans (B2.mono HB.out.size))
  clear B2 j0 j1 jl p0 p1 pl HJ HP HB HV
  obtain ⟨j0, j1, jl⟩ := HJ2.out
  obtain ⟨p0, p1, -, pl⟩ := HP2.out
  by_cases hv : val14 l wt st v = 0
  · rw [hv]
    obtain ⟨S, rfl, hpl⟩ := val14_zero hv
    have HE := Lib.hid (show loadL l wt (S : Int) v = toZ (ldN S (tnT l) (cdN v) (rdN l) (tnN l) (lnN l) l.length) by unfold loadL; rw [if_pos hv]; rfl)
    have HV0 := Lib.hid hv
    have HPL := Lib.hid hpl
    have hS := hpl.s12
    have hL96 : L ≤ 96 := by rw [HL.out]; exact hpl.l96
    have htc := tcI_bd (valid_ok hpl.val).2.1 l.length (Nat.le_refl _)
    have hT16 : tnT l ≤ 16 := by unfold tnT; omega
    have hTI : tcI l l.length = (tnT l : Int) := by unfold tnT; omega
    have HTC := Lib.hid (fun (W : World) (k : IRow W A l) => (by
      have := HTC0.out hpl.val W k
      rw [hTI] at this
      exact this : Calls Tryz.prog 66 #[.slice A L c] W fun e w' => e = .returned (.int .i64 (tnT l : Int)) ∧ Below W.heap.size W w'))
    have HTN := Lib.hid (fun x (hx : x < l.length) => hpl.tn hx)
    obtain ⟨T, hT⟩ : ∃ T, T = tnT l := ⟨_, rfl⟩
    rw [← hT] at hT16 HTC HE HTN
    clear hv hpl htc hTI hT HTC0
    have HRW := Lib.hid (show Row .i64 w2 w2.heap.size A (flatI l) ∧ Row .i64 w2 w2.heap.size pA v from ⟨(H.out.below HB2.out).row, HQ.out.below HB2.out⟩)
    go_upto_region 4 with fail
    obtain ⟨q0, e0⟩ : ∃ q, q = w2.drew := ⟨_, rfl⟩
    have HB0 := Lib.hid (show Below w2.heap.size w2 q0 by rw [e0]; exact ⟨rfl, rfl, rfl, Nat.le_refl _, fun _ _ => rfl⟩)
    have HSS := Lib.hid (show ∀ W, Below w2.heap.size w2 W → W.cell? ⟨b, 0, none⟩ = some (.slice A L c) ∧ W.cell? ⟨b + 1, 0, none⟩ = some (.int .i64 (S : Int)) from fun W k =>
      ⟨(k.cell (p := ⟨b, 0, none⟩) HJ2.out.lt).trans HJ2.out.c0, (k.cell (p := ⟨b + 1, 0, none⟩) HP2.out.lt).trans HP2.out.c0⟩)
    have F0 := HSS.out q0 HB0.out
    have HE0 := Lib.hid e0
    clear e0 j0 j1 jl p0 p1 pl
    refine AnyT.begin_at tlN (fun X => X.cell? ⟨b, 0, none⟩ = some (.slice A L c) ∧ X.cell? ⟨b + 1, 0, none⟩ = some (.int .i64 (S : Int))) (by kernel_rfl) HE0.out F0 ?_
    clear F0
    intro F0
-- TAKES L1
    refine AnyT.takeD (i := 0) (d := some 18) (v := .pointer (some ⟨b + 1, 0, none⟩)) rfl rfl (by kernel_rfl) (by kernel_rfl) (by kernel_rfl) (by kernel_rfl) (fun _ _ _ h => h) (Or.inl ⟨by rfl, fun wz _ => by go_simp⟩) F0 ?_
    simp only [Act.put, List.setIfInBounds_toArray, List.set_cons_zero, List.set_cons_succ]
    refine AnyT.takeD (i := 1) (d := some 19) (v := .int .i64 (S : Int)) rfl rfl (by kernel_rfl) (by kernel_rfl) (by kernel_rfl) (by kernel_rfl) (fun _ _ _ h => h) (Or.inl ⟨by rfl, fun wz hz => by obtain ⟨z0, z1⟩ := hz; go_simp⟩) F0 ?_
    simp only [Act.put, List.setIfInBounds_toArray, List.set_cons_zero, List.set_cons_succ]
    refine AnyT.takeD (i := 2) (d := some 20) (v := .pointer (some ⟨b, 0, none⟩)) rfl rfl (by kernel_rfl) (by kernel_rfl) (by kernel_rfl) (by kernel_rfl) (fun _ _ _ h => h) (Or.inl ⟨by rfl, fun wz _ => by go_simp⟩) F0 ?_
    simp only [Act.put, List.setIfInBounds_toArray, List.set_cons_zero, List.set_cons_succ]
    refine AnyT.takeD (i := 3) (d := some 21) (v := .slice A L c) rfl rfl (by kernel_rfl) (by kernel_rfl) (by kernel_rfl) (by kernel_rfl) (fun _ _ _ h => h) (Or.inl ⟨by rfl, fun wz hz => by obtain ⟨z0, z1⟩ := hz; go_simp⟩) F0 ?_
    simp only [Act.put, List.setIfInBounds_toArray, List.set_cons_zero, List.set_cons_succ]
    -- TAKEN L1
    refine AnyT.branch (rs := [4]) (by kernel_rfl) (by simp) ?_
    refine all_cons (?_) all_nil
    refine AnyT.enter (i := 4) (d := some 22) (f := 66) (args := #[.slice A L c]) rfl rfl rfl (by go_simp) (HTC.out q0 ⟨(HRW.out.1.below HB0.out), by have := HL.out; unfold maxLen; omega⟩) ?_
    rintro e q1 ⟨rfl, bz⟩
    have HB1 := Lib.hid (HB0.out.trans (bz.mono HB0.out.size))
    have F1 := HSS.out q1 HB1.out
    refine ⟨_, rfl, fun _ => F1, ?_⟩
    clear bz F0
    simp only [Act.put, List.setIfInBounds_toArray, List.set_cons_zero, List.set_cons_succ]
    have hws : IntKind.i64.wrap ((S : Int) + (T : Int)) = (S : Int) + (T : Int) := IntWalk.i64_in _ (by omega)
-- TAKES L2
    refine AnyT.takeD (i := 5) (d := some 23) (v := .int .i64 ((S : Int) + (T : Int))) rfl rfl (by kernel_rfl) (by kernel_rfl) (by kernel_rfl) (by kernel_rfl) (fun _ _ _ h => h) (Or.inl ⟨by rfl, fun wz _ => by go_simp⟩) F1 ?_
    simp only [Act.put, List.setIfInBounds_toArray, List.set_cons_zero, List.set_cons_succ]
    -- TAKEN L2
    have hmk : ∀ W, (Instr.makeSlice 22 (.int .i64 ((S : Int) + (T : Int))) (.int .i64 ((S : Int) + (T : Int)))).run Tryz.prog W = .ok (.slice (some ⟨W.heap.size, 0, none⟩) (S + T) (S + T)) (W.alloc (.cells ((List.replicate (S + T) 0).map (Value.int .i64)).toArray 3)) := fun W => by
      have := make_ints W (S + T) (by omega)
      rw [show ((S + T : Nat) : Int) = (S : Int) + (T : Int) by omega] at this
      exact this
    refine AnyT.branch (rs := [6]) (by kernel_rfl) (by simp) ?_
    refine all_cons (?_) all_nil
    obtain ⟨q2, e2⟩ : ∃ q, q = q1.alloc (.cells ((List.replicate (S + T) 0).map (Value.int .i64)).toArray 3) := ⟨_, rfl⟩
    have HB3 := Lib.hid (show Below w2.heap.size w2 q2 by rw [e2]; exact HB1.out.alloc HB1.out.size _)
    have F2 := HSS.out q2 HB3.out
    obtain ⟨g, hg⟩ : ∃ g, g = q1.heap.size := ⟨_, rfl⟩
    have HLD := Lib.hid (show LdS w2 q2 g (S + T) (ldN S T (cdN v) (rdN l) (tnN l) (lnN l) 0) by
      refine ⟨?_, HB3.out, by rw [ldN_len]⟩
      rw [e2, hg]
      have := Own.laid (k := .i64) (T := 3) q1 w2.heap.size HB1.out.size (List.replicate (S + T) (0 : Int)) (S + T) (by simp) (by omega)
      show Own .i64 3 _ _ _ (toZ (List.replicate (S + T) 0))
      rw [← toZ_rep]
      exact this)
    refine AnyT.yield (i := 6) (d := some 24) (v := .slice (some ⟨g, 0, none⟩) (S + T) (S + T)) (w' := q2) rfl rfl rfl (by rw [e2, hg]; go_simp) (fun _ => F2) ?_
    clear e2 hg F1 hmk
    simp only [Act.put, List.setIfInBounds_toArray, List.set_cons_zero, List.set_cons_succ]
-- TAKES L3
    refine AnyT.takeD (i := 7) (d := some 7) (v := .slice (some ⟨g, 0, none⟩) (S + T) (S + T)) rfl rfl (by kernel_rfl) (by kernel_rfl) (by kernel_rfl) (by kernel_rfl) (fun _ _ _ h => h) (Or.inl ⟨by rfl, fun wz _ => by go_simp⟩) F2 ?_
    simp only [Act.put, List.setIfInBounds_toArray, List.set_cons_zero, List.set_cons_succ]
    -- TAKEN L3
    refine AnyT.done_ (by kernel_rfl) ?_ _
    obtain ⟨j0, j1⟩ := F2
    clear hws HE0
    obtain ⟨N, hN⟩ : ∃ N, N = S + T := ⟨_, rfl⟩
    rw [← hN] at HLD ⊢
    have hNb : N ≤ 28 := by omega
    have HNN := Lib.hid hN
    clear hN
    go_wp2_with fail
    clear j0 j1
    go_loopw [28] (fun iv wr => ∃ k : Nat, k ≤ L ∧ iv = .int .i64 (k : Int) ∧ Hid (LdS w2 wr g N (ldN S T (cdN v) (rdN l) (tnN l) (lnN l) k))) (fun iv _ => L - (intOf iv).toNat)
    case atStart => exact ⟨0, by omega, rfl, HLD⟩
    case round =>
      clear HLD
      obtain ⟨k, hk, rfl, LD⟩ := hrel
      by_cases hlt : k < L
      · have hkl : k < l.length := by rw [← HL.out]; exact hlt
        have hki : (k : Int) < (L : Int) := by omega
        have hkn : (k : Int) < (n : Int) := by rw [HN.out, HPL.out.len]; omega
        have HIR := Lib.hid (show IRow wr A l from ⟨HRW.out.1.below LD.out.bel, by have := HL.out; unfold maxLen; omega⟩)
        obtain ⟨aA, rfl, CE⟩ := HIR.out.at_ k hkl
        obtain ⟨c0, c1, c2, c3⟩ := CE.spelt
        obtain ⟨pad, rfl, plt, cp⟩ := (HRW.out.2.below LD.out.bel) k (by rw [HPL.out.len]; exact hkl)
        obtain ⟨⟨tv, bv, rv, lv⟩, hp4⟩ : ∃ p, p = l.getD k it0 := ⟨_, rfl⟩
        have hrv : rv = (rdN l k : Int) := by rw [← (HPL.out.rd hkl).1]; unfold rnd; rw [← hp4]
        have htv : tv = (tnN l k : Int) := by rw [← (HTN.out k hkl).1]; unfold trn; rw [← hp4]
        have hlv : lv = (lnN l k : Int) := by rw [← (HPL.out.ln hkl).1, ← hp4]
        have hcv := (HPL.out.cd hkl).1
        have HREAL := Lib.hid (show realL (cdN v k : Int) (rdN l k : Int) = toZ (blM (cdN v k) (rdN l k) 12) by
          have := (HPL.out.real hkl).1
          rw [hcv, (HPL.out.rd hkl).1, blN_toZ] at this
          exact this)
        rw [hcv] at cp
        rw [← hp4] at c0 c1 c2 c3
        have HSTEP := Lib.hid (show ldN S T (cdN v) (rdN l) (tnN l) (lnN l) (k + 1) = addAt ((blM (cdN v k) (rdN l k) 12).foldl (addL (lnN l k)) (ldN S T (cdN v) (rdN l) (tnN l) (lnN l) k)) (S + tnN l k) (lnN l k) from rfl)
        have HLB := Lib.hid (ldN_bd (S := S) (T := T) (cd := cdN v) (rd := rdN l) (tn := tnN l) (ln := lnN l) HPL.out.lns k)
        have hln := HPL.out.lns k
        have HTK := Lib.hid (HTN.out k hkl).2
        have HKS := Lib.hid (HPL.out.cd hkl).2.1
        obtain ⟨K, hK⟩ : ∃ K, K = cdN v k := ⟨_, rfl⟩
        obtain ⟨R, hR⟩ : ∃ R, R = rdN l k := ⟨_, rfl⟩
        obtain ⟨τ, hτ⟩ : ∃ τ, τ = tnN l k := ⟨_, rfl⟩
        obtain ⟨gw, hgw⟩ : ∃ x, x = lnN l k := ⟨_, rfl⟩
        obtain ⟨ls, hls⟩ : ∃ ls, ls = ldN S T (cdN v) (rdN l) (tnN l) (lnN l) k := ⟨_, rfl⟩
        rw [← hK] at cp HREAL HSTEP HKS
        rw [← hR] at hrv HREAL HSTEP
        rw [← hτ] at htv HSTEP HTK
        rw [← hgw] at hlv HSTEP hln
        rw [← hls] at LD HSTEP HLB
        clear hK hR hτ hgw hls hp4 hcv CE
        subst hrv
        subst htv
        subst hlv
        have BX := (Below.refl wr.heap.size wr).alloc (Nat.le_refl _) (.cells #[.int .i64 (τ : Int), .int .i64 bv, .int .i64 (R : Int), .int .i64 (gw : Int)] 52)
        have P1 := IPl.new (w := wr) (p := ((τ : Int), bv, (R : Int), (gw : Int))) (T := 52) wr.heap.size rfl
        have HP1 := Lib.hid P1
        have LD1 := Lib.hid (LD.out.below BX)
        have hcp := (BX.cell (p := pad.add k) (by rw [add_block]; exact plt)).trans cp
        obtain ⟨ib, hib⟩ : ∃ q, q = wr.heap.size := ⟨_, rfl⟩
        have HIG0 := Lib.hid (show ib ≠ g by have := LD.out.ge.2; omega)
        clear P1 BX LD HIR
        go_upto_region 8 with fail
        clear c0 c1 c2 c3 cp
        rw [← hib] at HP1 ⊢
        generalize wr.alloc (.cells #[.int .i64 (τ : Int), .int .i64 bv, .int .i64 (R : Int), .int .i64 (gw : Int)] 52) = w3 at *
        clear hib
        obtain ⟨q0, e0⟩ : ∃ q, q = w3.drew := ⟨_, rfl⟩
        have HB0 := Lib.hid (show Below w3.heap.size w3 q0 by rw [e0]; exact ⟨rfl, rfl, rfl, Nat.le_refl _, fun _ _ => rfl⟩)
        have HP3 := Lib.hid (show PBox w3 (b + 1) (S : Int) (some pad) n pc from HP2.out.below LD1.out.bel HP2.out.lt)
        have HSX := Lib.hid (show ∀ W, Below w3.heap.size w3 W → W.cell? ⟨b + 1, 1, none⟩ = some (.slice (some pad) n pc) ∧ W.cell? (pad.add k) = some (.int .i64 (K : Int)) ∧ W.cell? ⟨ib, 2, none⟩ = some (.int .i64 (R : Int)) from fun W q =>
          ⟨(q.cell (p := ⟨b + 1, 1, none⟩) HP3.out.lt).trans HP3.out.c1, (q.cell (p := pad.add k) (lt_of_cell hcp)).trans hcp, (q.cell (p := ⟨ib, 2, none⟩) HP1.out.lt).trans HP1.out.c2⟩)
        have F0 := HSX.out q0 HB0.out
        have HE0 := Lib.hid e0
        clear e0 hcp
        refine AnyT.begin_at tlN (fun X => X.cell? ⟨b + 1, 1, none⟩ = some (.slice (some pad) n pc) ∧ X.cell? (pad.add k) = some (.int .i64 (K : Int)) ∧ X.cell? ⟨ib, 2, none⟩ = some (.int .i64 (R : Int))) (by kernel_rfl) HE0.out F0 ?_
        clear F0
        intro F0
-- TAKES L4
        refine AnyT.takeD (i := 0) (d := some 33) (v := .pointer (some ⟨b + 1, 1, none⟩)) rfl rfl (by kernel_rfl) (by kernel_rfl) (by kernel_rfl) (by kernel_rfl) (fun _ _ _ h => h) (Or.inl ⟨by rfl, fun wz _ => by go_simp⟩) F0 ?_
        simp only [Act.put, List.setIfInBounds_toArray, List.set_cons_zero, List.set_cons_succ]
        refine AnyT.takeD (i := 1) (d := some 34) (v := .slice (some pad) n pc) rfl rfl (by kernel_rfl) (by kernel_rfl) (by kernel_rfl) (by kernel_rfl) (fun _ _ _ h => h) (Or.inl ⟨by rfl, fun wz hz => by obtain ⟨z0, z1, z2⟩ := hz; go_simp⟩) F0 ?_
        simp only [Act.put, List.setIfInBounds_toArray, List.set_cons_zero, List.set_cons_succ]
        refine AnyT.takeD (i := 2) (d := some 35) (v := .int .i64 (k : Int)) rfl rfl (by kernel_rfl) (by kernel_rfl) (by kernel_rfl) (by kernel_rfl) (fun _ _ _ h => h) (Or.inl ⟨by rfl, fun wz _ => by go_simp⟩) F0 ?_
        simp only [Act.put, List.setIfInBounds_toArray, List.set_cons_zero, List.set_cons_succ]
        refine AnyT.takeD (i := 3) (d := some 36) (v := .pointer (some (pad.add k))) rfl rfl (by kernel_rfl) (by kernel_rfl) (by kernel_rfl) (by kernel_rfl) (fun _ _ _ h => h) (Or.inl ⟨by rfl, fun wz _ => by go_simp⟩) F0 ?_
        simp only [Act.put, List.setIfInBounds_toArray, List.set_cons_zero, List.set_cons_succ]
        refine AnyT.takeD (i := 4) (d := some 37) (v := .int .i64 (K : Int)) rfl rfl (by kernel_rfl) (by kernel_rfl) (by kernel_rfl) (by kernel_rfl) (fun _ _ _ h => h) (Or.inl ⟨by rfl, fun wz hz => by obtain ⟨z0, z1, z2⟩ := hz; go_simp⟩) F0 ?_
        simp only [Act.put, List.setIfInBounds_toArray, List.set_cons_zero, List.set_cons_succ]
        refine AnyT.takeD (i := 5) (d := some 38) (v := .pointer (some ⟨ib, 2, none⟩)) rfl rfl (by kernel_rfl) (by kernel_rfl) (by kernel_rfl) (by kernel_rfl) (fun _ _ _ h => h) (Or.inl ⟨by rfl, fun wz _ => by go_simp⟩) F0 ?_
        simp only [Act.put, List.setIfInBounds_toArray, List.set_cons_zero, List.set_cons_succ]
        refine AnyT.takeD (i := 6) (d := some 39) (v := .int .i64 (R : Int)) rfl rfl (by kernel_rfl) (by kernel_rfl) (by kernel_rfl) (by kernel_rfl) (fun _ _ _ h => h) (Or.inl ⟨by rfl, fun wz hz => by obtain ⟨z0, z1, z2⟩ := hz; go_simp⟩) F0 ?_
        simp only [Act.put, List.setIfInBounds_toArray, List.set_cons_zero, List.set_cons_succ]
        refine AnyT.takeD (i := 9) (d := some 42) (v := .int .i64 0) rfl rfl (by kernel_rfl) (by kernel_rfl) (by kernel_rfl) (by kernel_rfl) (fun _ _ _ h => h) (Or.inl ⟨by rfl, fun wz _ => by go_simp⟩) F0 ?_
        simp only [Act.put, List.setIfInBounds_toArray, List.set_cons_zero, List.set_cons_succ]
        -- TAKEN L4
        refine AnyT.branch (rs := [7]) (by kernel_rfl) (by simp) ?_
        refine all_cons (?_) all_nil
        refine AnyT.enter (i := 7) (d := some 40) (f := 67) (args := #[.int .i64 (K : Int), .int .i64 (R : Int)]) rfl rfl rfl (by go_simp) (realBits_any (K : Int) (R : Int) q0) ?_
        rintro e q1 ⟨zv, rfl, OZ, BZ⟩
        rw [HREAL.out] at OZ
        have HBQ := Lib.hid (HB0.out.trans (BZ.mono HB0.out.size))
        have F1 := HSX.out q1 HBQ.out
        refine ⟨_, rfl, fun _ => F1, ?_⟩
        have hzb : ∀ j, zv.ownBlock = some j → q0.heap.size ≤ j ∧ j < q1.heap.size := fun j hj => own_block OZ hj
        have hozc := OZ
        obtain ⟨zA, zc, ez, ZR, -, -, -⟩ := hozc.slice
        obtain ⟨Z, hZ⟩ : ∃ Z, Z = blM K R 12 := ⟨_, rfl⟩
        rw [← hZ] at ez ZR OZ HSTEP
        obtain ⟨zn, hzn⟩ : ∃ zn, zn = (toZ Z).length := ⟨_, rfl⟩
        rw [← hzn] at ez
        subst ez
        have HZ := Lib.hid hZ
        have HZN := Lib.hid (show zn = Z.length by rw [hzn, toZ_len])
        have hzn12 : zn ≤ 12 := by rw [HZN.out, hZ]; exact blM_len K R 12
        have HOZ := Lib.hid OZ
        have HQ3 := Lib.hid HB0.out.size
        have LD2 := Lib.hid (LD1.out.below HBQ.out)
        have HPI := Lib.hid (HP1.out.below HBQ.out)
        have HGB := Lib.hid (show g < w3.heap.size from LD1.out.ge.2)
        have HIG := HIG0
        clear F0 OZ ZR BZ hZ hzn hzb hozc
        simp only [Act.put, List.setIfInBounds_toArray, List.set_cons_zero, List.set_cons_succ]
-- TAKES L5
        refine AnyT.takeD (i := 8) (d := some 41) (v := .int .i64 (zn : Int)) rfl rfl (by kernel_rfl) (by kernel_rfl) (by kernel_rfl) (by kernel_rfl) (fun _ _ _ h => h) (Or.inl ⟨by rfl, fun wz _ => by go_simp⟩) F1 ?_
        simp only [Act.put, List.setIfInBounds_toArray, List.set_cons_zero, List.set_cons_succ]
        -- TAKEN L5
        refine AnyT.done_ (by kernel_rfl) ?_ _
        clear F1 HSX HP1 LD1 HB0 HBQ HE0 HREAL
        go_wp2_with fail
        go_loopw [42] (fun iv wi => ∃ i : Nat, i ≤ zn ∧ iv = .int .i64 (i : Int) ∧ Hid (LdS w2 wi g N ((Z.take i).foldl (addL gw) ls)) ∧ Hid (IPl wi ib ((τ : Int), bv, (R : Int), (gw : Int))) ∧ Hid (Own .i64 3 wi q0.heap.size (.slice zA zn zc) (toZ Z))) (fun iv _ => zn - (intOf iv).toNat)
        case atStart => exact ⟨0, by omega, rfl, LD2, HPI, HOZ⟩
        case round =>
          clear LD2 HPI HOZ
          obtain ⟨i, hi, rfl, LI, PI, OI⟩ := hrel
          by_cases hlt2 : i < zn
          · have hiz : i < Z.length := by rw [← HZN.out]; exact hlt2
            have hio := OI.out
            obtain ⟨A', c', ev, UR, -, -, hgz⟩ := hio.slice
            obtain rfl : zA = A' := by injection ev
            obtain ⟨zad, rfl, zlt, zc1⟩ := UR i (by rw [toZ_len]; exact hiz)
            rw [toZ_at Z hiz] at zc1
            obtain ⟨zg, hzg, hzg1, hzg2⟩ := hgz (by rw [toZ_len]; omega)
            have hzad : zad = ⟨zg, 0, none⟩ := by injection hzg
            have HMEM := Lib.hid (show Z.getD i 0 < N by
              have h1 := (blM_mem 12 _).1 (show Z.getD i 0 ∈ blM K R 12 by rw [← HZ.out]; exact getD_memN hiz)
              have h2 : Z.getD i 0 < S := by
                rcases Nat.lt_or_ge (Z.getD i 0) S with g1 | g1
                · exact g1
                · have h3 := bit_high (K := K) (S := S) (b := Z.getD i 0) (HKS.out) g1
                  rw [h3] at h1; cases h1.2.2
              rw [HNN.out]; omega)
            have HTS := Lib.hid (take_succL hiz)
            obtain ⟨B, hB⟩ : ∃ B, B = Z.getD i 0 := ⟨_, rfl⟩
            rw [← hB] at zc1 HMEM HTS
            clear hB
            have hii : (i : Int) < (zn : Int) := by omega
            have hBN := HMEM.out
            have hBi : (B : Int) < (N : Int) := by omega
            have HLB2 := Lib.hid (foldL_bd (x := gw) (Z.take i) _ _ HLB.out B)
            obtain ⟨lc, hlc⟩ : ∃ x, x = ((Z.take i).foldl (addL gw) ls).getD B 0 := ⟨_, rfl⟩
            have hlcb : lc ≤ 2000000 := by
              have h1 := HLB2.out
              rw [← hlc, List.length_take] at h1
              have h2 : min i Z.length * gw ≤ 12 * 400 := Nat.mul_le_mul (by omega) hln
              omega
            have cB := LI.out.cell hBN
            rw [← hlc] at cB
            have fB := LI.out.frozen B
            have i3 : wr.cell? ⟨ib, 3, none⟩ = some (.int .i64 (gw : Int)) := PI.out.c3
            have hwr : IntKind.i64.wrap ((lc : Int) + (gw : Int)) = (lc : Int) + (gw : Int) := IntWalk.i64_in _ (by omega)
            have HNEXT := Lib.hid (show LdS w2 (wr.setCell ⟨g, B, none⟩ (.int .i64 ((lc : Int) + (gw : Int)))) g N ((Z.take (i + 1)).foldl (addL gw) ls) by
              have := LI.out.add B gw
              rw [← hlc] at this
              rw [HTS.out, List.foldl_append]
              rw [show ((lc : Int) + (gw : Int)) = ((lc + gw : Nat) : Int) by omega]
              exact this)
            have hgib : ib ≠ g := HIG.out
            have HPN := Lib.hid (show IPl (wr.setCell ⟨g, B, none⟩ (.int .i64 ((lc : Int) + (gw : Int)))) ib ((τ : Int), bv, (R : Int), (gw : Int)) from PI.out.setO (Ne.symm hgib) _ _)
            have HON := Lib.hid (OI.out.setN (p := ⟨g, B, none⟩) (fun g' hg' => by have h1 := (own_block OI.out hg').1; have := HGB.out; have := HQ3.out; show g' ≠ g; omega) (.int .i64 ((lc : Int) + (gw : Int))))
            clear UR ev hgz hzg hzg1 hzg2 hio hlc LI PI OI hgib hzad HLB2
            go_wp2_with fail
            go_region
            clear zc1 cB fB i3 hwr
            go_wp2_with fail
            go_roundw
            case rel => exact ⟨i + 1, by omega, by go_num, Lib.hid (HNEXT.out.below ⟨rfl, rfl, rfl, Nat.le_refl _, fun _ _ => rfl⟩), Lib.hid (HPN.out.drewN 1), HON⟩
            case measure => simp [intOf]; omega
          · have hiz : i = zn := by omega
            have hni : ¬ (i : Int) < (zn : Int) := by omega
            have hli := LI.out
            rw [hiz, HZN.out, List.take_length] at hli
            clear hiz hlt2 OI
            obtain ⟨ms, hms⟩ : ∃ ms, ms = Z.foldl (addL gw) ls := ⟨_, rfl⟩
            rw [← hms] at hli HSTEP
            have HMS := Lib.hid hms
            have hτN : S + τ < N := by have := HTK.out; rw [HNN.out]; omega
            have hτi : (S : Int) + (τ : Int) < (N : Int) := by omega
            have hτ0 : (0 : Int) ≤ (S : Int) + (τ : Int) := by omega
            have hτn : ((S : Int) + (τ : Int)).toNat = S + τ := by omega
            obtain ⟨lc, hlc⟩ : ∃ x, x = ms.getD (S + τ) 0 := ⟨_, rfl⟩
            have hlcb : lc ≤ 2000000 := by
              have h1 := foldL_bd (x := gw) Z _ _ HLB.out (S + τ)
              rw [← hms, ← hlc] at h1
              have h2 : Z.length * gw ≤ 12 * 400 := Nat.mul_le_mul (by have := HZN.out; omega) hln
              omega
            have cB := hli.cell hτN
            rw [← hlc] at cB
            have fB := hli.frozen (S + τ)
            have i0 : wr.cell? ⟨ib, 0, none⟩ = some (.int .i64 (τ : Int)) := PI.out.c0
            have i3 : wr.cell? ⟨ib, 3, none⟩ = some (.int .i64 (gw : Int)) := PI.out.c3
            have p0 : wr.cell? ⟨b + 1, 0, none⟩ = some (.int .i64 (S : Int)) := (hli.bel.cell (p := ⟨b + 1, 0, none⟩) HP2.out.lt).trans HP2.out.c0
            have hwr : IntKind.i64.wrap ((lc : Int) + (gw : Int)) = (lc : Int) + (gw : Int) := IntWalk.i64_in _ (by omega)
            have hws : IntKind.i64.wrap ((S : Int) + (τ : Int)) = (S : Int) + (τ : Int) := IntWalk.i64_in _ (by omega)
            have HNEXT := Lib.hid (show LdS w2 (wr.setCell ⟨g, S + τ, none⟩ (.int .i64 ((lc : Int) + (gw : Int)))) g N (ldN S T (cdN v) (rdN l) (tnN l) (lnN l) (k + 1)) by
              have := hli.add (S + τ) gw
              rw [← hlc] at this
              rw [HSTEP.out]
              rw [show ((lc : Int) + (gw : Int)) = ((lc + gw : Nat) : Int) by omega]
              exact this)
            clear hlc hli hms PI LI
            go_wp2_with fail
            go_region
            clear i0 i3 p0 cB fB hwr hws hni
            go_wp2_with fail
            go_roundw
            case rel => exact ⟨k + 1, by omega, by go_num, Lib.hid (HNEXT.out.below ⟨rfl, rfl, rfl, Nat.le_refl _, fun _ _ => rfl⟩)⟩
            case measure => simp [intOf]; omega
      · obtain rfl : k = L := by omega
        have HF := Lib.hid (show Own .i64 3 wr w.heap.size (.slice (some ⟨g, 0, none⟩) N N) (loadL l wt (S : Int) v) by rw [HE.out, ← HL.out]; exact LD.out.own.base HB2.out.size)
        have HFB := Lib.hid (HB2.out.trans (LD.out.bel.mono HB2.out.size))
        go_wp2_with fail
        go_ret2
        rw [HV0.out]
        exact PairPost.mk' HF.out HFB.out
  · have HE := Lib.hid (show loadL l wt st v = [] by unfold loadL; rw [if_neg hv])
    have hne : (val14 l wt st v != 0) = true := bne_iff_ne.2 hv
    obtain ⟨er, her⟩ : ∃ er, er = val14 l wt st v := ⟨_, rfl⟩
    rw [← her] at hne ⊢
    have HER := Lib.hid her
    clear her
    clear hv HTC0
    go_wp2_with fail
    go_ret2
    rw [HE.out, ← HER.out]
    exact PairPost.mk' Own.nil HB2.out
end Go.Proofs.YtimkmieohkefiaaGreat

namespace Go.Proofs.YtimkmieohkefiaaGreat
open Go.RowKit Go.Lib

end Go.Proofs.YtimkmieohkefiaaGreat

namespace Go.Proofs.YtimkmieohkefiaaGreat
open Go.RowKit Go.Lib

structure PlS (w wr : World) (m N jb : Nat) (jA : Option Addr) (L jc : Nat) (wt : Int) (l : List It) (r pb : Nat) (S : Int) (vA : Option Addr) (vc : Nat) (v : List Int) : Prop where
  jbx : JBox wr jb jA L jc wt
  jo : IOwn 52 wr (m + 1) (.slice jA L jc) l
  jlo : ∀ g, (Value.slice jA L jc).ownBlock = some g → g < jb
  rb : PBox wr r 0 none 0 0
  pbx : PBox wr pb S vA v.length vc
  po : Own .i64 3 wr (pb + 1) (.slice vA v.length vc) v
  mkr : IsMk wr m N
  mv : Moves m w wr
  ord : m < jb ∧ jb < r ∧ r < pb ∧ w.heap.size ≤ jb
section
variable {w wr w' : World} {m N jb : Nat} {jA : Option Addr} {L jc : Nat} {wt : Int} {l : List It} {r pb : Nat} {S : Int} {vA : Option Addr} {vc : Nat} {v : List Int}
theorem JBox.moves' {w w' : World} {m b n c : Nat} {wt : Int} {A : Option Addr} (h : JBox w b A n c wt) (k : Moves m w w') (hb : b ≠ m) : JBox w' b A n c wt :=
  ⟨(k.cell (p := ⟨b, 0, none⟩) h.lt hb).trans h.c0, (k.cell (p := ⟨b, 1, none⟩) h.lt hb).trans h.c1, Nat.lt_of_lt_of_le h.lt k.size⟩
theorem PlS.moves (h : PlS w wr m N jb jA L jc wt l r pb S vA vc v) {M : Nat} (k : Moves m wr w') (g : IsMk w' m M) : PlS w w' m M jb jA L jc wt l r pb S vA vc v := by
  have := h.ord
  exact ⟨h.jbx.moves' k (by omega), h.jo.moves k (by omega), h.jlo, h.rb.moves k (by omega), h.pbx.moves k (by omega), h.po.moves k (by omega), g, h.mv.trans k, h.ord⟩
theorem PlS.below (h : PlS w wr m N jb jA L jc wt l r pb S vA vc v) (k : Below wr.heap.size wr w') : PlS w w' m N jb jA L jc wt l r pb S vA vc v := h.moves (Moves.of_below k) (h.mkr.stays' k)
theorem PlS.more (h : PlS w wr m N jb jA L jc wt l r pb S vA vc v) {M : Nat} (k : N ≤ M) : PlS w wr m M jb jA L jc wt l r pb S vA vc v :=
  ⟨h.jbx, h.jo, h.jlo, h.rb, h.pbx, h.po, h.mkr.more k, h.mv, h.ord⟩
theorem PlS.app (h : PlS w wr m N jb jA L jc wt l r pb S vA vc v) {y : Int} {v' : Value} (A : AppI (pb + 1) (.slice vA v.length vc) v y wr v' w') :
    w'.cell? ⟨pb, 1, none⟩ = some (.slice vA v.length vc) ∧ w'.frozen? ⟨pb, 1, none⟩ = false ∧ ∃ vA' vc', v' = .slice vA' (v ++ [y]).length vc' ∧ PlS w (w'.setCell ⟨pb, 1, none⟩ v') m N jb jA L jc wt l r pb S vA' vc' (v ++ [y]) := by
  obtain ⟨O', hg, g', c, rfl, hlt, hat⟩ := A
  obtain ⟨o1, o2, o3, o4⟩ := h.ord
  have hvb : ∀ j, (Value.slice vA v.length vc).ownBlock = some j → pb + 1 ≤ j := fun j hj => (own_block h.po hj).1
  have hgp : pb < g' := by
    rcases hat with e | e
    · exact hvb g' e
    · have := h.pbx.lt; omega
  have blk : ∀ k, k ≤ pb → k < wr.heap.size → w'.heap[k]? = wr.heap[k]? := fun k hk hl => hg.block k hl (fun e => by have := hvb k e.symm; omega)
  have hpl := h.pbx.lt
  have c0 : w'.cell? ⟨pb, 0, none⟩ = some (.int .i64 S) := (World.cell?_of_block (w := wr) (blk pb (Nat.le_refl _) hpl)).trans h.pbx.c0
  have c1 : w'.cell? ⟨pb, 1, none⟩ = some (.slice vA v.length vc) := (World.cell?_of_block (w := wr) (blk pb (Nat.le_refl _) hpl)).trans h.pbx.c1
  have cf : ∀ j, w'.frozen? ⟨pb, j, none⟩ = false := fun j => (World.frozen?_of_block (w := wr) (blk pb (Nat.le_refl _) hpl)).trans (h.pbx.f j)
  have gs : w'.grownBy (w'.setCell ⟨pb, 1, none⟩ (.slice (some ⟨g', 0, none⟩) (v.length + 1) c)) (some pb) :=
    ⟨rfl, rfl, rfl, by rw [World.size_setCell]; exact Nat.le_refl _, fun k hk hn => Below.heap_setCell _ _ _ _ (fun e => hn (by first | exact congrArg some e | exact congrArg some e.symm))⟩
  have old : ∀ k, k < pb → k < wr.heap.size → (w'.setCell ⟨pb, 1, none⟩ (.slice (some ⟨g', 0, none⟩) (v.length + 1) c)).heap[k]? = wr.heap[k]? := fun k hk hl => (Below.heap_setCell _ _ _ _ (by show k ≠ pb; omega)).trans (blk k (by omega) hl)
  have bel : Below pb wr (w'.setCell ⟨pb, 1, none⟩ (.slice (some ⟨g', 0, none⟩) (v.length + 1) c)) := ⟨hg.os, hg.tape, hg.output, by rw [World.size_setCell]; exact hg.size, fun k hk => old k hk (by omega)⟩
  refine ⟨c1, cf 1, some ⟨g', 0, none⟩, c, by rw [List.length_append]; rfl, ?_⟩
  have hmk : m + 1 ≤ pb := by omega
  refine ⟨h.jbx.below bel (by omega), ?_, h.jlo, h.rb.below bel (by omega), ?_, ?_, h.mkr.stays (bel.mono hmk), ⟨bel.os.trans h.mv.os, bel.tape.trans h.mv.tape, bel.output.trans h.mv.output, Nat.le_trans h.mv.size bel.size, fun k hk hm => ?_⟩, h.ord⟩
  · exact h.jo.under bel (fun g hg => by have := h.jlo g hg; omega)
  · rw [List.length_append]
    exact ⟨by rw [World.cell?_setCell_other _ _ _ _ (by simp)]; exact c0, World.cell?_setCell_same _ _ _ c1, fun j => by rw [World.frozen?_setCell]; exact cf j, by rw [World.size_setCell]; exact Nat.lt_of_lt_of_le hpl hg.size⟩
  · rw [List.length_append]
    exact O'.kept gs (Or.inr (fun e => by have : g' = pb := by simpa [Value.ownBlock] using e
                                          omega))
  · exact (bel.block k (by omega)).trans (h.mv.block k hk hm)
end
end Go.Proofs.YtimkmieohkefiaaGreat

namespace Go.Proofs.YtimkmieohkefiaaGreat
open Go.RowKit Go.Lib

end Go.Proofs.YtimkmieohkefiaaGreat

namespace Go.Proofs.YtimkmieohkefiaaGreat
open Go.RowKit Go.Lib

/-- A scheme with its plan and its proof. -/
structure Sc where
  wt : Int
  st : Int
  mv : Int
  pu : Int
  v : List Int
  ch : List Int
def mvZ (l : List It) (st : Int) (v : List Int) : Int := (mM st.toNat l.length (cdN v) (rdN l) (st.toNat + 1) : Int)
/-- s is the scheme of its weight. -/
def ScR (l : List It) (s : Sc) : Prop := MakeR l s.wt s.st s.v s.ch 0 ∧ s.mv = mvZ l s.st s.v ∧ s.pu = (pushZ l s.wt s.st s.v).1
theorem ScR.uniq {l : List It} {a b : Sc} (h : ScR l a) (k : ScR l b) (e : a.wt = b.wt) : a = b := by
  obtain ⟨aw, ast, am, ap, av, ac⟩ := a
  obtain ⟨bw, bst, bm, bp, bv, bc⟩ := b
  obtain ⟨h1, h2, h3⟩ := h
  obtain ⟨k1, k2, k3⟩ := k
  simp only at *
  subst e
  obtain ⟨rfl, rfl, rfl, -⟩ := h1.uniq k1
  rw [h2, h3, k2, k3]
/-- The scheme of a weight, if there is one. -/
noncomputable def scO (l : List It) (wt : Int) : Option Sc := Classical.epsilon fun o => (∀ s, o = some s → ScR l s ∧ s.wt = wt) ∧ (o = none → ∀ s, ScR l s → s.wt ≠ wt)
theorem scO_spec (l : List It) (wt : Int) : (∀ s, scO l wt = some s → ScR l s ∧ s.wt = wt) ∧ (scO l wt = none → ∀ s, ScR l s → s.wt ≠ wt) := by
  refine Classical.epsilon_spec (p := fun o : Option Sc => (∀ s, o = some s → ScR l s ∧ s.wt = wt) ∧ (o = none → ∀ s, ScR l s → s.wt ≠ wt)) ?_
  by_cases h : ∃ s, ScR l s ∧ s.wt = wt
  · obtain ⟨s, h1, h2⟩ := h
    exact ⟨some s, (fun t e => by injection e with e; subst e; exact ⟨h1, h2⟩), (fun e => by cases e)⟩
  · exact ⟨none, (fun t e => by cases e), (fun _ s h1 h2 => h ⟨s, h1, h2⟩)⟩
theorem scO_some {l : List It} {s : Sc} (h : ScR l s) : scO l s.wt = some s := by
  cases e : scO l s.wt with
  | none => exact absurd rfl ((scO_spec l s.wt).2 e s h)
  | some t => rw [((scO_spec l s.wt).1 t e).1.uniq h ((scO_spec l s.wt).1 t e).2]
theorem scO_no {l : List It} {wt st er : Int} {v ch : List Int} (h : MakeR l wt st v ch er) (he : er ≠ 0) : scO l wt = none := by
  cases e : scO l wt with
  | none => rfl
  | some t =>
    obtain ⟨h1, h2⟩ := (scO_spec l wt).1 t e
    have := h1.1
    rw [h2] at this
    exact absurd (h.uniq this).2.2.2 he
/-- The schemes of the first n weights. -/
def wts : List Int := [0, 1, 2, 12]
noncomputable def scK (l : List It) (n : Nat) : List Sc := (wts.take n).filterMap (scO l)
noncomputable def scL (l : List It) : List Sc := scK l 4
theorem wts_take {n : Nat} (hn : n < 4) : wts.take (n + 1) = wts.take n ++ [wts.getD n 0] := by
  match n, hn with
  | 0, _ => rfl
  | 1, _ => rfl
  | 2, _ => rfl
  | 3, _ => rfl
theorem scK_some {l : List It} {n : Nat} (hn : n < 4) {s : Sc} (h : ScR l s) (e : s.wt = wts.getD n 0) : scK l (n + 1) = scK l n ++ [s] := by
  unfold scK
  rw [wts_take hn, List.filterMap_append, ← e, List.filterMap_cons, scO_some h]; rfl
theorem scK_no {l : List It} {n : Nat} (hn : n < 4) {st er : Int} {v ch : List Int} (h : MakeR l (wts.getD n 0) st v ch er) (he : er ≠ 0) : scK l (n + 1) = scK l n := by
  unfold scK
  rw [wts_take hn, List.filterMap_append, List.filterMap_cons, scO_no h he, List.filterMap_nil, List.append_nil]
theorem scK_mem {l : List It} {n : Nat} {s : Sc} : s ∈ scK l n ↔ ScR l s ∧ s.wt ∈ wts.take n := by
  unfold scK
  rw [List.mem_filterMap]
  constructor
  · rintro ⟨wt, h1, h2⟩
    obtain ⟨h3, rfl⟩ := (scO_spec l wt).1 s h2
    exact ⟨h3, h1⟩
  · rintro ⟨h1, h2⟩
    exact ⟨s.wt, h2, scO_some h1⟩
theorem scL_mem {l : List It} {s : Sc} : s ∈ scL l ↔ ScR l s ∧ s.wt ∈ wts := scK_mem
theorem scK_wts (l : List It) (n : Nat) : ((scK l n).map Sc.wt).Sublist (wts.take n) := by
  unfold scK
  generalize wts.take n = ws
  induction ws with
  | nil => exact List.Sublist.slnil
  | cons w ws ih =>
    rw [List.filterMap_cons]
    cases e : scO l w with
    | none => exact ih.cons _
    | some s =>
      have := ((scO_spec l w).1 s e).2
      show (s.wt :: (ws.filterMap (scO l)).map Sc.wt).Sublist (w :: ws)
      rw [this]; exact ih.cons_cons _
theorem scK_len (l : List It) (n : Nat) : (scK l n).length ≤ 4 := by
  have := (scK_wts l n).length_le
  rw [List.length_map, List.length_take] at this
  have : wts.length = 4 := rfl
  omega
/-- Different elements have different weights. -/
theorem scK_nodup (l : List It) (n : Nat) : ((scK l n).map Sc.wt).Nodup :=
  (scK_wts l n).nodup ((List.take_sublist n wts).nodup (by decide))
/-- s stands before t. -/
def Bf (s t : Sc) : Prop := s.st < t.st ∨ (s.st = t.st ∧ (s.mv < t.mv ∨ (s.mv = t.mv ∧ s.wt < t.wt)))
instance (s t : Sc) : Decidable (Bf s t) := by unfold Bf; infer_instance
theorem Bf.irr {s : Sc} (h : Bf s s) : False := by unfold Bf at h; omega
theorem Bf.trans {s t u : Sc} (h : Bf s t) (k : Bf t u) : Bf s u := by unfold Bf at *; omega
theorem bf_or {s t : Sc} (h : s.wt ≠ t.wt) : Bf s t ∨ Bf t s := by unfold Bf; omega
/-- q is the list P in order. -/
structure Srt17 (P q : List Sc) : Prop where
  perm : q.Perm P
  asc : q.Pairwise Bf
theorem Srt17.uniq {P q q' : List Sc} (h : Srt17 P q) (k : Srt17 P q') : q = q' :=
  List.Perm.eq_of_pairwise (le := Bf) (fun x y _ _ h1 h2 => absurd (h1.trans h2) Bf.irr) h.asc k.asc (h.perm.trans k.perm.symm)
theorem Srt17.nil : Srt17 [] [] := ⟨List.Perm.refl _, List.Pairwise.nil⟩
theorem Srt17.len {P q : List Sc} (h : Srt17 P q) : q.length = P.length := h.perm.length_eq
/-- What Schemes answers beside its list. -/
noncomputable def solE (l : List It) : Int := if validR l 0 ≠ 0 then validR l 0 else if (scL l).length = 0 then 15 else 0
theorem valid_w {l : List It} {wt : Int} (h0 : 0 ≤ wt) (h1 : wt ≤ 12) : validR l wt = validR l 0 := by
  unfold validR
  by_cases h : 96 < l.length
  · simp [h]
  · have e : ∀ z : Int, 0 ≤ z → z ≤ 12 → btw z 0 12 = true := fun z a b => by unfold btw; simp [a, b]
    simp [h, e wt h0 h1, e 0 (by decide) (by decide)]
theorem wts_bd {n : Nat} (hn : n < 4) : 0 ≤ wts.getD n 0 ∧ wts.getD n 0 ≤ 12 := by
  match n, hn with
  | 0, _ => decide
  | 1, _ => decide
  | 2, _ => decide
  | 3, _ => decide
end Go.Proofs.YtimkmieohkefiaaGreat

namespace Go.Proofs.YtimkmieohkefiaaGreat
open Go.Shelf
def insK_ren : Go.Shelf.Ren := ⟨fun | 20 => 149 | n => n, fun | 24 => 97 | 22 => 93 | 3 => 3 | 25 => 133 | 4 => 4 | 0 => 0 | n => n, fun | n => n⟩
theorem insK : Go.Proofs.SlLaysF0.n20 Tryz.prog insK_ren := {
  mixed := by kernel_rfl
  f20 := ⟨Tryz.f149.name, by decide, Tryz.func149.trans (congrArg some (by kernel_rfl))⟩
  t0 := Tryz.underlying0
  a0 := Tryz.isAgg0
  z0 := Tryz.sizeOf0
  v0 := Tryz.zeroValue0
  t3 := Tryz.underlying3
  a3 := Tryz.isAgg3
  z3 := Tryz.sizeOf3
  v3 := Tryz.zeroValue3
  t4 := Tryz.underlying4
  a4 := Tryz.isAgg4
  z4 := Tryz.sizeOf4
  v4 := Tryz.zeroValue4
  t22 := Tryz.underlying93
  a22 := Tryz.isAgg93
  z22 := Tryz.sizeOf93
  v22 := Tryz.zeroValue93
  t25 := Tryz.underlying133
  a25 := Tryz.isAgg133
  z25 := Tryz.sizeOf133
  v25 := Tryz.zeroValue133 }
def compareG_ren : Go.Shelf.Ren := ⟨fun | 5 => 124 | 7 => 151 | n => n, fun | 22 => 3 | 3 => 3 | 4 => 4 | n => n, fun | n => n⟩
theorem compareG : Go.Proofs.SlLaysC2.n5 Tryz.prog compareG_ren := {
  mixed := by kernel_rfl
  f5 := ⟨Tryz.f124.name, by decide, Tryz.func124.trans (congrArg some (by kernel_rfl))⟩
  f7 := ⟨Tryz.f151.name, by decide, Tryz.func151.trans (congrArg some (by kernel_rfl))⟩
  t3 := Tryz.underlying3
  a3 := Tryz.isAgg3
  z3 := Tryz.sizeOf3
  v3 := Tryz.zeroValue3
  t4 := Tryz.underlying4
  a4 := Tryz.isAgg4
  z4 := Tryz.sizeOf4
  v4 := Tryz.zeroValue4
  t22 := Tryz.underlying3
  a22 := Tryz.isAgg3
  z22 := Tryz.sizeOf3
  v22 := Tryz.zeroValue3 }
end Go.Proofs.YtimkmieohkefiaaGreat

namespace Go.Proofs.YtimkmieohkefiaaGreat
open Go.RowKit Go.Lib Go.Sort

/-- A world with some draws and some blocks more. -/
def GrW (w w' : World) : Prop := ∃ q os, w' = Sort.grow (w.drewN q) os
theorem GrW.refl (w : World) : GrW w w := ⟨0, #[], by rw [grow_empty]; rfl⟩
theorem GrW.alloc {w w' : World} (h : GrW w w') (o : Obj) : GrW w (w'.alloc o) := by
  obtain ⟨q, os, rfl⟩ := h
  exact ⟨q, os ++ #[o], by rw [alloc_eq_grow, grow_grow]⟩
theorem GrW.drew {w w' : World} (h : GrW w w') : GrW w w'.drew := by
  obtain ⟨q, os, rfl⟩ := h
  exact ⟨q + 1, os, by rw [drew_grow]; congr 1⟩
theorem GrW.trans {w w' w'' : World} (h : GrW w w') (k : GrW w' w'') : GrW w w'' := by
  obtain ⟨q, os, rfl⟩ := h
  obtain ⟨q', os', rfl⟩ := k
  exact ⟨q + q', os ++ os', by show Sort.grow (Sort.grow ((w.drewN q).drewN q') os) os' = _; rw [grow_grow, World.drewN_drewN]⟩
/-- A solution: its scheme and where its codes and its chain lie. -/
structure Sl where
  s : Sc
  vA : Option Addr
  vn : Nat
  vc : Nat
  uA : Option Addr
  un : Nat
  uc : Nat
instance : Inhabited Sc := ⟨⟨0, 0, 0, 0, [], []⟩⟩
instance : Inhabited Sl := ⟨⟨default, none, 0, 0, none, 0, 0⟩⟩
def cellsS (A : Option Addr) (L c : Nat) (x : Sl) : List Value := [.int .i64 x.s.wt, .int .i64 x.s.st, .int .i64 x.s.mv, .int .i64 x.s.pu, .slice A L c, .int .i64 x.s.wt, .int .i64 x.s.st, .slice x.vA x.vn x.vc, .slice x.uA x.un x.uc]
def SR (A : Option Addr) (L c : Nat) : Rec Sl := ⟨9, by decide, cellsS A L c, fun _ => rfl, fun x u hu => by
  simp only [cellsS, List.mem_cons, List.not_mem_nil, or_false] at hu
  rcases hu with rfl | rfl | rfl | rfl | rfl | rfl | rfl | rfl | rfl <;> rfl⟩
abbrev scv (s : Sc) : Value := .agg #[.int .i64 s.wt, .int .i64 s.st, .int .i64 s.mv, .int .i64 s.pu]
def cmpS (a b : Sc) : Int := if Lib.compareInt a.st b.st ≠ 0 then Lib.compareInt a.st b.st else if Lib.compareInt a.mv b.mv ≠ 0 then Lib.compareInt a.mv b.mv else Lib.compareInt a.wt b.wt
theorem compareG_any (x y : Int) (w : World) : Calls Tryz.prog 124 #[.int .i64 x, .int .i64 y] w fun e w' => e = .returned (.int .i64 (Lib.compareInt x y)) ∧ w' = w := AnyG.cmp_Compare_int compareG x y w
/-- The first number that is not 0. -/
def orL : List Int → Int
  | [] => 0
  | x :: l => if x = 0 then orL l else x
theorem orL_at : ∀ (zs : List Int) (k : Nat), k < zs.length → orL (zs.drop k) = if zs.getD k 0 = 0 then orL (zs.drop (k + 1)) else zs.getD k 0
  | [], k, h => absurd h (Nat.not_lt_zero _)
  | x :: l, 0, _ => rfl
  | x :: l, k + 1, h => orL_at l k (by simpa using h)
set_option maxHeartbeats 1600000 in
theorem or_any (zs : List Int) (g n c : Nat) (hn : n = zs.length) (hm : n ≤ maxLen) (w : World) (h : Row .i64 w w.heap.size (some ⟨g, 0, none⟩) zs) :
    Calls Tryz.prog 123 #[.slice (some ⟨g, 0, none⟩) n c] w fun e w' => e = .returned (.int .i64 (orL zs)) ∧ w' = w := by
  have hl : n ≤ 9223372036854775807 := hm
  have C := Lib.hid (fun k (hk : k < n) => show w.cell? ⟨g, k, none⟩ = some (.int .i64 (zs.getD k 0)) from by
    obtain ⟨ad, e, -, hc⟩ := h k (by omega)
    injection e with e
    subst e
    rw [add_own] at hc
    exact hc)
  have HN := Lib.hid hn
  generalize hr : orL zs = r
  have HR := Lib.hid hr
  clear h hr hn hm
  go_enter Tryz.func123, Tryz.ntmps123
  go_wp2_with fail
  go_loopw [8] (fun iv wr => ∃ k : Nat, k ≤ n ∧ iv = .int .i64 (k : Int) ∧ Hid (orL (zs.drop k) = r) ∧ Hid (wr = w)) (fun iv _ => n - (intOf iv).toNat)
  case atStart => exact ⟨0, by omega, rfl, Lib.hid (by rw [List.drop_zero]; exact HR.out), Lib.hid rfl⟩
  case round =>
    obtain ⟨k, hk, rfl, F, HW⟩ := hrel
    obtain rfl := HW.out
    by_cases hlt : k < n
    · have ck := C.out k hlt
      have HLT := Lib.hid hlt
      have hat := orL_at zs k (by rw [← HN.out]; exact hlt)
      rw [F.out] at hat
      by_cases hz : zs.getD k 0 = 0
      · rw [if_pos hz] at hat
        rw [hz] at ck
        have HA := Lib.hid hat
        clear hz hat
        go_wp2_with fail
        go_roundw
        case rel => exact ⟨k + 1, by omega, by go_num, Lib.hid HA.out.symm, Lib.hid trivial⟩
        case measure => simp [intOf]; omega
      · rw [if_neg hz] at hat
        rw [← hat] at ck hz
        have hzb : (r != 0) = true := by simpa using hz
        clear hat hz
        go_wp2_with fail
        go_ret
        exact ⟨rfl, rfl⟩
    · obtain rfl : k = n := by omega
      have HF := F.out
      rw [List.drop_of_length_le (by rw [HN.out]; exact Nat.le_refl _)] at HF
      have HZ := Lib.hid (show r = 0 from HF.symm)
      clear HF
      go_wp2_with fail
      go_ret
      exact ⟨by rw [HZ.out]; rfl, rfl⟩
theorem orL_cmp (a b : Sc) : orL [Lib.compareInt a.st b.st, Lib.compareInt a.mv b.mv, Lib.compareInt a.wt b.wt] = cmpS a b := by
  unfold cmpS
  simp only [orL]
  by_cases h1 : Lib.compareInt a.st b.st = 0
  · by_cases h2 : Lib.compareInt a.mv b.mv = 0
    · by_cases h3 : Lib.compareInt a.wt b.wt = 0 <;> simp [h1, h2, h3]
    · simp [h1, h2]
  · simp [h1]
/-- The cells of two schemes. -/
def Six (b : Nat) (x y : Sc) (X : World) : Prop := (X.cell? ⟨b, 1, none⟩ = some (.int .i64 x.st) ∧ X.cell? ⟨b + 1, 1, none⟩ = some (.int .i64 y.st)) ∧ (X.cell? ⟨b, 2, none⟩ = some (.int .i64 x.mv) ∧ X.cell? ⟨b + 1, 2, none⟩ = some (.int .i64 y.mv)) ∧ (X.cell? ⟨b, 0, none⟩ = some (.int .i64 x.wt) ∧ X.cell? ⟨b + 1, 0, none⟩ = some (.int .i64 y.wt))
def tlG (i : Nat) : Bool := i == 17
theorem Six.keep {b : Nat} {x y : Sc} {X Y : World} (h : Six b x y X) (hb : b + 1 < X.heap.size) (k : Below X.heap.size X Y) : Six b x y Y :=
  ⟨⟨(k.cell (p := ⟨b, 1, none⟩) (Nat.lt_of_succ_lt hb)).trans h.1.1, (k.cell (p := ⟨b + 1, 1, none⟩) hb).trans h.1.2⟩, ⟨(k.cell (p := ⟨b, 2, none⟩) (Nat.lt_of_succ_lt hb)).trans h.2.1.1, (k.cell (p := ⟨b + 1, 2, none⟩) hb).trans h.2.1.2⟩, ⟨(k.cell (p := ⟨b, 0, none⟩) (Nat.lt_of_succ_lt hb)).trans h.2.2.1, (k.cell (p := ⟨b + 1, 0, none⟩) hb).trans h.2.2.2⟩⟩
set_option maxRecDepth 100000 in
set_option maxHeartbeats 3200000 in
theorem compareS_any (x y : Sc) (w : World) : Calls Tryz.prog 80 #[scv x, scv y] w fun e w' => e = .returned (.int .i64 (cmpS x y)) ∧ GrW w w' := by
  have hcx := orL_cmp x y
  obtain ⟨r, hr⟩ : ∃ r, r = cmpS x y := ⟨_, rfl⟩
  rw [← hr] at hcx ⊢
  have HC := Lib.hid hcx
  clear hr hcx
  obtain ⟨x0, x1, x2, x3, x4, x5⟩ := x
  obtain ⟨y0, y1, y2, y3, y4, y5⟩ := y
  simp only at HC
  have HG := Lib.hid ((((GrW.refl w).alloc (.cells #[.int .i64 x0, .int .i64 x1, .int .i64 x2, .int .i64 x3] 70)).alloc (.cells #[.int .i64 y0, .int .i64 y1, .int .i64 y2, .int .i64 y3] 70)).drew)
  have S0 : Six w.heap.size ⟨x0, x1, x2, x3, x4, x5⟩ ⟨y0, y1, y2, y3, y4, y5⟩ ((w.alloc (.cells #[.int .i64 x0, .int .i64 x1, .int .i64 x2, .int .i64 x3] 70)).alloc (.cells #[.int .i64 y0, .int .i64 y1, .int .i64 y2, .int .i64 y3] 70)).drew := by
    have e1 : (w.alloc (.cells #[.int .i64 x0, .int .i64 x1, .int .i64 x2, .int .i64 x3] 70)).heap.size = w.heap.size + 1 := by simp
    have k := (Below.refl (w.heap.size + 1) (w.alloc (.cells #[.int .i64 x0, .int .i64 x1, .int .i64 x2, .int .i64 x3] 70))).alloc (Nat.le_of_eq e1.symm) (.cells #[.int .i64 y0, .int .i64 y1, .int .i64 y2, .int .i64 y3] 70)
    have c : ∀ j u, (#[Value.int .i64 x0, .int .i64 x1, .int .i64 x2, .int .i64 x3])[j]? = some u → (w.alloc (.cells #[.int .i64 x0, .int .i64 x1, .int .i64 x2, .int .i64 x3] 70)).cell? ⟨w.heap.size, j, none⟩ = some u := fun j u hj => by rw [cell_new]; exact hj
    have d : ∀ j u, (#[Value.int .i64 y0, .int .i64 y1, .int .i64 y2, .int .i64 y3])[j]? = some u → ((w.alloc (.cells #[.int .i64 x0, .int .i64 x1, .int .i64 x2, .int .i64 x3] 70)).alloc (.cells #[.int .i64 y0, .int .i64 y1, .int .i64 y2, .int .i64 y3] 70)).cell? ⟨w.heap.size + 1, j, none⟩ = some u := fun j u hj => by
      rw [← e1, cell_new]; exact hj
    have c' : ∀ j u, (#[Value.int .i64 x0, .int .i64 x1, .int .i64 x2, .int .i64 x3])[j]? = some u → ((w.alloc (.cells #[.int .i64 x0, .int .i64 x1, .int .i64 x2, .int .i64 x3] 70)).alloc (.cells #[.int .i64 y0, .int .i64 y1, .int .i64 y2, .int .i64 y3] 70)).cell? ⟨w.heap.size, j, none⟩ = some u := fun j u hj => (k.cell (p := ⟨w.heap.size, j, none⟩) (Nat.lt_succ_self _)).trans (c j u hj)
    exact ⟨⟨c' 1 _ rfl, d 1 _ rfl⟩, ⟨c' 2 _ rfl, d 2 _ rfl⟩, ⟨c' 0 _ rfl, d 0 _ rfl⟩⟩
  have HS := Lib.hid S0
  have HK := Lib.hid compareG_any
  have HO := Lib.hid or_any
  obtain ⟨b, hb⟩ : ∃ b, b = w.heap.size := ⟨_, rfl⟩
  have HZ := Lib.hid (show b + 1 < ((w.alloc (.cells #[.int .i64 x0, .int .i64 x1, .int .i64 x2, .int .i64 x3] 70)).alloc (.cells #[.int .i64 y0, .int .i64 y1, .int .i64 y2, .int .i64 y3] 70)).drew.heap.size by
    show _ < ((w.alloc _).alloc _).heap.size
    simp [hb])
  clear S0
  go_enter Tryz.func80, Tryz.ntmps80
  go_upto_region 1 with fail
  rw [← hb] at HS ⊢
  obtain ⟨q0, e0⟩ : ∃ q, q = ((w.alloc (.cells #[.int .i64 x0, .int .i64 x1, .int .i64 x2, .int .i64 x3] 70)).alloc (.cells #[.int .i64 y0, .int .i64 y1, .int .i64 y2, .int .i64 y3] 70)).drew := ⟨_, rfl⟩
  have HE0 := Lib.hid e0
  rw [← e0] at HS HG HZ
  clear e0 hb
  refine AnyT.begin_at tlG (Six b ⟨x0, x1, x2, x3, x4, x5⟩ ⟨y0, y1, y2, y3, y4, y5⟩) (by kernel_rfl) HE0.out HS.out ?_
  intro F0
-- TAKES A
  refine AnyT.takeD (i := 0) (d := some 5) (v := .pointer (some ⟨b, 1, none⟩)) rfl rfl (by kernel_rfl) (by kernel_rfl) (by kernel_rfl) (by kernel_rfl) (fun _ _ _ h => h) (Or.inl ⟨by rfl, fun wz _ => by go_simp⟩) F0 ?_
  simp only [Act.put, List.setIfInBounds_toArray, List.set_cons_zero, List.set_cons_succ]
  refine AnyT.takeD (i := 1) (d := some 6) (v := .int .i64 x1) rfl rfl (by kernel_rfl) (by kernel_rfl) (by kernel_rfl) (by kernel_rfl) (fun _ _ _ h => h) (Or.inl ⟨by rfl, fun wz hz => by obtain ⟨⟨h1, h2⟩, ⟨h3, h4⟩, ⟨h5, h6⟩⟩ := hz; go_simp⟩) F0 ?_
  simp only [Act.put, List.setIfInBounds_toArray, List.set_cons_zero, List.set_cons_succ]
  refine AnyT.takeD (i := 2) (d := some 7) (v := .pointer (some ⟨b + 1, 1, none⟩)) rfl rfl (by kernel_rfl) (by kernel_rfl) (by kernel_rfl) (by kernel_rfl) (fun _ _ _ h => h) (Or.inl ⟨by rfl, fun wz _ => by go_simp⟩) F0 ?_
  simp only [Act.put, List.setIfInBounds_toArray, List.set_cons_zero, List.set_cons_succ]
  refine AnyT.takeD (i := 3) (d := some 8) (v := .int .i64 y1) rfl rfl (by kernel_rfl) (by kernel_rfl) (by kernel_rfl) (by kernel_rfl) (fun _ _ _ h => h) (Or.inl ⟨by rfl, fun wz hz => by obtain ⟨⟨h1, h2⟩, ⟨h3, h4⟩, ⟨h5, h6⟩⟩ := hz; go_simp⟩) F0 ?_
  simp only [Act.put, List.setIfInBounds_toArray, List.set_cons_zero, List.set_cons_succ]
  refine AnyT.takeD (i := 5) (d := some 10) (v := .pointer (some ⟨b, 2, none⟩)) rfl rfl (by kernel_rfl) (by kernel_rfl) (by kernel_rfl) (by kernel_rfl) (fun _ _ _ h => h) (Or.inl ⟨by rfl, fun wz _ => by go_simp⟩) F0 ?_
  simp only [Act.put, List.setIfInBounds_toArray, List.set_cons_zero, List.set_cons_succ]
  refine AnyT.takeD (i := 6) (d := some 11) (v := .int .i64 x2) rfl rfl (by kernel_rfl) (by kernel_rfl) (by kernel_rfl) (by kernel_rfl) (fun _ _ _ h => h) (Or.inl ⟨by rfl, fun wz hz => by obtain ⟨⟨h1, h2⟩, ⟨h3, h4⟩, ⟨h5, h6⟩⟩ := hz; go_simp⟩) F0 ?_
  simp only [Act.put, List.setIfInBounds_toArray, List.set_cons_zero, List.set_cons_succ]
  refine AnyT.takeD (i := 7) (d := some 12) (v := .pointer (some ⟨b + 1, 2, none⟩)) rfl rfl (by kernel_rfl) (by kernel_rfl) (by kernel_rfl) (by kernel_rfl) (fun _ _ _ h => h) (Or.inl ⟨by rfl, fun wz _ => by go_simp⟩) F0 ?_
  simp only [Act.put, List.setIfInBounds_toArray, List.set_cons_zero, List.set_cons_succ]
  refine AnyT.takeD (i := 8) (d := some 13) (v := .int .i64 y2) rfl rfl (by kernel_rfl) (by kernel_rfl) (by kernel_rfl) (by kernel_rfl) (fun _ _ _ h => h) (Or.inl ⟨by rfl, fun wz hz => by obtain ⟨⟨h1, h2⟩, ⟨h3, h4⟩, ⟨h5, h6⟩⟩ := hz; go_simp⟩) F0 ?_
  simp only [Act.put, List.setIfInBounds_toArray, List.set_cons_zero, List.set_cons_succ]
  refine AnyT.takeD (i := 10) (d := some 15) (v := .pointer (some ⟨b, 0, none⟩)) rfl rfl (by kernel_rfl) (by kernel_rfl) (by kernel_rfl) (by kernel_rfl) (fun _ _ _ h => h) (Or.inl ⟨by rfl, fun wz _ => by go_simp⟩) F0 ?_
  simp only [Act.put, List.setIfInBounds_toArray, List.set_cons_zero, List.set_cons_succ]
  refine AnyT.takeD (i := 11) (d := some 16) (v := .int .i64 x0) rfl rfl (by kernel_rfl) (by kernel_rfl) (by kernel_rfl) (by kernel_rfl) (fun _ _ _ h => h) (Or.inl ⟨by rfl, fun wz hz => by obtain ⟨⟨h1, h2⟩, ⟨h3, h4⟩, ⟨h5, h6⟩⟩ := hz; go_simp⟩) F0 ?_
  simp only [Act.put, List.setIfInBounds_toArray, List.set_cons_zero, List.set_cons_succ]
  refine AnyT.takeD (i := 12) (d := some 17) (v := .pointer (some ⟨b + 1, 0, none⟩)) rfl rfl (by kernel_rfl) (by kernel_rfl) (by kernel_rfl) (by kernel_rfl) (fun _ _ _ h => h) (Or.inl ⟨by rfl, fun wz _ => by go_simp⟩) F0 ?_
  simp only [Act.put, List.setIfInBounds_toArray, List.set_cons_zero, List.set_cons_succ]
  refine AnyT.takeD (i := 13) (d := some 18) (v := .int .i64 y0) rfl rfl (by kernel_rfl) (by kernel_rfl) (by kernel_rfl) (by kernel_rfl) (fun _ _ _ h => h) (Or.inl ⟨by rfl, fun wz hz => by obtain ⟨⟨h1, h2⟩, ⟨h3, h4⟩, ⟨h5, h6⟩⟩ := hz; go_simp⟩) F0 ?_
  simp only [Act.put, List.setIfInBounds_toArray, List.set_cons_zero, List.set_cons_succ]
-- TAKEN A
  refine AnyT.branch (rs := [4]) (by kernel_rfl) (by simp) ?_
  refine all_cons ?_ all_nil
  refine AnyT.enter (i := 4) (d := some 9) (f := 124) (args := #[.int .i64 x1, .int .i64 y1]) rfl rfl rfl (by go_simp) (HK.out x1 y1 q0) ?_
  rintro e qz ⟨rfl, hq⟩
  obtain rfl : q0 = qz := hq.symm
  refine ⟨_, rfl, fun _ => F0, ?_⟩
  simp only [Act.put, List.setIfInBounds_toArray, List.set_cons_zero, List.set_cons_succ]
  refine AnyT.branch (rs := [9]) (by kernel_rfl) (by simp) ?_
  refine all_cons ?_ all_nil
  refine AnyT.enter (i := 9) (d := some 14) (f := 124) (args := #[.int .i64 x2, .int .i64 y2]) rfl rfl rfl (by go_simp) (HK.out x2 y2 q0) ?_
  rintro e qz ⟨rfl, hq⟩
  obtain rfl : q0 = qz := hq.symm
  refine ⟨_, rfl, fun _ => F0, ?_⟩
  simp only [Act.put, List.setIfInBounds_toArray, List.set_cons_zero, List.set_cons_succ]
  refine AnyT.branch (rs := [14]) (by kernel_rfl) (by simp) ?_
  refine all_cons ?_ all_nil
  refine AnyT.enter (i := 14) (d := some 19) (f := 124) (args := #[.int .i64 x0, .int .i64 y0]) rfl rfl rfl (by go_simp) (HK.out x0 y0 q0) ?_
  rintro e qz ⟨rfl, hq⟩
  obtain rfl : q0 = qz := hq.symm
  refine ⟨_, rfl, fun _ => F0, ?_⟩
  simp only [Act.put, List.setIfInBounds_toArray, List.set_cons_zero, List.set_cons_succ]
  have HR1 := Lib.hid (row_new (k := .i64) (W := q0) (T := 3) [Lib.compareInt x1 y1, Lib.compareInt x2 y2, Lib.compareInt x0 y0])
  have HG1 := Lib.hid (HG.out.alloc (.cells #[.int .i64 (Lib.compareInt x1 y1), .int .i64 (Lib.compareInt x2 y2), .int .i64 (Lib.compareInt x0 y0)] 3))
  have F1 := F0.keep HZ.out ((Below.refl _ _).alloc (Nat.le_refl _) (.cells #[.int .i64 (Lib.compareInt x1 y1), .int .i64 (Lib.compareInt x2 y2), .int .i64 (Lib.compareInt x0 y0)] 3))
  generalize Lib.compareInt x1 y1 = k1 at *
  generalize Lib.compareInt x2 y2 = k2 at *
  generalize Lib.compareInt x0 y0 = k3 at *
  refine AnyT.branch (rs := [15]) (by kernel_rfl) (by simp) ?_
  refine all_cons ?_ all_nil
  refine AnyT.yield (i := 15) (d := some 20) (v := .slice (some ⟨q0.heap.size, 0, none⟩) 3 3) (w' := q0.alloc (.cells #[.int .i64 k1, .int .i64 k2, .int .i64 k3] 3)) rfl rfl rfl (by go_simp) (fun _ => F1) ?_
  simp only [Act.put, List.setIfInBounds_toArray, List.set_cons_zero, List.set_cons_succ]
  refine AnyT.branch (rs := [16]) (by kernel_rfl) (by simp) ?_
  refine all_cons ?_ all_nil
  refine AnyT.enter (i := 16) (d := some 21) (f := 123) (args := #[.slice (some ⟨q0.heap.size, 0, none⟩) 3 3]) rfl rfl rfl (by go_simp) (HO.out [k1, k2, k3] q0.heap.size 3 3 rfl (by decide) _ HR1.out) ?_
  rintro e qy ⟨rfl, rfl⟩
  refine ⟨_, rfl, fun _ => F1, ?_⟩
  simp only [Act.put, List.setIfInBounds_toArray, List.set_cons_zero, List.set_cons_succ]
  refine AnyT.branch (rs := [17]) (by kernel_rfl) (by simp) ?_
  refine all_cons ?_ all_nil
  refine AnyT.yield (i := 17) (d := some 4) (v := .int .i64 (orL [k1, k2, k3])) rfl rfl rfl (by go_simp) (fun _ => F1) ?_
  simp only [Act.put, List.setIfInBounds_toArray, List.set_cons_zero, List.set_cons_succ]
  refine AnyT.done_ (by kernel_rfl) ?_ _
  go_wp2_with fail
  go_ret
  exact ⟨by rw [← HC.out]; rfl, HG1.out⟩
end Go.Proofs.YtimkmieohkefiaaGreat

namespace Go.Proofs.YtimkmieohkefiaaGreat
open Go.Sort

section
variable {α : Type} [Inhabited α]
theorem get_cut (A C : List α) (u : α) (i : Nat) (hi : i = A.length) : (A ++ u :: C).toArray[i]! = u := by
  subst hi; simp [getElem!_def]
theorem swp_cut (A B C : List α) (u v : α) (i j : Nat) (hi : i = A.length) (hj : j = A.length + 1 + B.length) : swp (A ++ u :: (B ++ v :: C)).toArray i j = (A ++ v :: (B ++ u :: C)).toArray := by
  have e1 := get_cut A (B ++ v :: C) u i hi
  have e2 : (A ++ u :: (B ++ v :: C)).toArray[j]! = v := by
    have := get_cut (A ++ u :: B) C v j (by rw [hj]; simp; omega)
    simpa using this
  unfold swp
  rw [e1, e2]
  subst hi; subst hj
  have e3 : A.length + 1 + B.length = A.length + (1 + B.length) := by omega
  have e4 : 1 + B.length - 1 = B.length := by omega
  simp [List.set_append, e3, List.set_cons_succ, Nat.add_comm 1 B.length]
theorem swp_cut' (A B C : List α) (u v : α) (i j : Nat) (hi : i = A.length) (hj : j = A.length + 1 + B.length) : swp (A ++ u :: (B ++ v :: C)).toArray j i = (A ++ v :: (B ++ u :: C)).toArray := by
  rw [← swp_cut A B C u v i j hi hj]
  have hne : i ≠ j := by omega
  unfold swp
  rw [Array.setIfInBounds_comm _ _ (Ne.symm hne)]

theorem last_at (A C : List α) {y : List α} {u : α} (h : y.getLast? = some u) (i : Nat) (hi : i = A.length + y.length - 1) : (A ++ (y ++ C)).toArray[i]! = u := by
  rcases List.eq_nil_or_concat y with rfl | ⟨ys, z, rfl⟩
  · simp at h
  · rw [List.concat_eq_append] at *
    simp at h
    subst h
    have := get_cut (A ++ ys) C z i (by rw [hi]; simp)
    simpa using this
theorem head_at (A C : List α) {y : List α} {v : α} (h : y.head? = some v) (i : Nat) (hi : i = A.length) : (A ++ (y ++ C)).toArray[i]! = v := by
  cases y with
  | nil => simp at h
  | cons z ys =>
    simp at h; subst h
    exact get_cut A (ys ++ C) z i hi
theorem mem_at (A C y : List α) (i : Nat) (h1 : A.length ≤ i) (h2 : i < A.length + y.length) : (A ++ (y ++ C)).toArray[i]! ∈ y := by
  have : (A ++ (y ++ C)).toArray[i]! = y[i - A.length]'(by omega) := by
    simp only [getElem!_def, List.getElem?_toArray]
    rw [List.getElem?_append_right h1, List.getElem?_append_left (by omega), List.getElem?_eq_getElem (by omega)]
  rw [this]
  exact List.getElem_mem _

variable {lt : α → α → Bool} {R : α → α → Prop}
/-- u stands ahead of v: asked whether v comes before u, the comparison tells the order. -/
def Cr (lt : α → α → Bool) (R : α → α → Prop) (u v : α) : Prop := (lt v u = true → R v u) ∧ (lt v u = false → R u v)

theorem insInner_list (hT : ∀ x y z, R x y → R y z → R x z) (p : List α) (e : α) : ∀ (n : Nat) (u v : List α), u.length = n → u.Pairwise R → (∀ x ∈ u, Cr lt R x e) →
    ∃ u1 u2, u = u1 ++ u2 ∧ insInner lt p.length (p.length + n) (p ++ (u ++ e :: v)).toArray = (p ++ (u1 ++ e :: (u2 ++ v))).toArray ∧ (∀ x ∈ u1, R x e) ∧ ∀ x ∈ u2, R e x
  | 0, u, v, hn, _, _ => by
    obtain rfl : u = [] := List.eq_nil_of_length_eq_zero hn
    exact ⟨[], [], rfl, by rw [insInner_stop _ _ _ _ (Or.inl (by omega))]; rfl, by simp, by simp⟩
  | n + 1, u, v, hn, hp, hc => by
    rcases List.eq_nil_or_concat u with rfl | ⟨u0, z, rfl⟩
    · simp at hn
    · rw [List.concat_eq_append] at *
      have hn0 : u0.length = n := by simp at hn; exact hn
      have g1 : (p ++ (u0 ++ [z] ++ e :: v)).toArray[p.length + (n + 1)]! = e := by
        have := get_cut (p ++ (u0 ++ [z])) v e (p.length + (n + 1)) (by simp; omega)
        simpa using this
      have g0 : (p ++ (u0 ++ [z] ++ e :: v)).toArray[p.length + (n + 1) - 1]! = z := by
        have := get_cut (p ++ u0) (e :: v) z (p.length + (n + 1) - 1) (by simp; omega)
        simpa using this
      rw [List.pairwise_append] at hp
      cases h : lt e z with
      | true =>
        rw [insInner_go lt _ _ _ (by omega) (by rw [g1, g0]; exact h)]
        have e1 : swp (p ++ (u0 ++ [z] ++ e :: v)).toArray (p.length + (n + 1)) (p.length + (n + 1) - 1) = (p ++ (u0 ++ e :: (z :: v))).toArray := by
          have := swp_cut' (p ++ u0) [] v z e (p.length + (n + 1) - 1) (p.length + (n + 1)) (by simp; omega) (by simp; omega)
          simpa using this
        rw [e1, show p.length + (n + 1) - 1 = p.length + n by omega]
        obtain ⟨u1, u2, rfl, he, h1, h2⟩ := insInner_list hT p e n u0 (z :: v) hn0 hp.1 (fun x hx => hc x (by simp [hx]))
        refine ⟨u1, u2 ++ [z], by simp, by rw [he]; simp, h1, fun x hx => ?_⟩
        rcases List.mem_append.1 hx with hx | hx
        · exact h2 x hx
        · rw [List.mem_singleton] at hx; subst hx
          exact (hc x (by simp)).1 h
      | false =>
        rw [insInner_stop _ _ _ _ (Or.inr (by rw [g1, g0]; exact h))]
        have hz := (hc z (by simp)).2 h
        refine ⟨u0 ++ [z], [], by simp, by simp, fun x hx => ?_, by simp⟩
        rcases List.mem_append.1 hx with hx | hx
        · exact hT _ _ _ (hp.2.2 x hx z (by simp)) hz
        · rw [List.mem_singleton] at hx; subst hx; exact hz

theorem insOuter_list (hT : ∀ x y z, R x y → R y z → R x z) (p q : List α) : ∀ (s2 s1 : List α), s1.Pairwise R → s2.Pairwise (Cr lt R) → (∀ x ∈ s1, ∀ y ∈ s2, Cr lt R x y) →
    ∃ z, z.Perm (s1 ++ s2) ∧ z.Pairwise R ∧ insOuter lt p.length (p.length + s1.length + s2.length) (p.length + s1.length) (p ++ (s1 ++ (s2 ++ q))).toArray = (p ++ (z ++ q)).toArray
  | [], s1, h1, _, _ => ⟨s1, by simp, h1, by rw [insOuter_stop _ _ _ _ _ (by simp)]; simp⟩
  | e :: s2, s1, h1, h2, h3 => by
    rw [List.pairwise_cons] at h2
    obtain ⟨u1, u2, rfl, he, g1, g2⟩ := insInner_list hT p e s1.length s1 (s2 ++ q) rfl h1 (fun x hx => h3 x hx e (by simp))
    rw [List.pairwise_append] at h1
    have hp : (u1 ++ e :: u2).Pairwise R := by
      rw [List.pairwise_append, List.pairwise_cons]
      refine ⟨h1.1, ⟨g2, h1.2.1⟩, fun a ha b hb => ?_⟩
      rcases List.mem_cons.1 hb with rfl | hb
      · exact g1 a ha
      · exact h1.2.2 a ha b hb
    obtain ⟨z, z1, z2, z3⟩ := insOuter_list hT p q s2 (u1 ++ e :: u2) hp h2.2 (fun x hx y hy => by
      rcases List.mem_append.1 hx with hx | hx
      · exact h3 x (by simp [hx]) y (by simp [hy])
      · rcases List.mem_cons.1 hx with rfl | hx
        · exact h2.1 y hy
        · exact h3 x (by simp [hx]) y (by simp [hy]))
    refine ⟨z, ?_, z2, ?_⟩
    · refine z1.trans ?_
      rw [List.append_assoc, List.append_assoc]
      refine List.Perm.append_left _ ?_
      rw [List.cons_append]
      exact List.perm_middle.symm
    · rw [insOuter_go _ _ _ _ _ (by simp)]
      have : (p ++ (u1 ++ u2 ++ (e :: s2 ++ q))).toArray = (p ++ (u1 ++ u2 ++ e :: (s2 ++ q))).toArray := by simp
      rw [this, he]
      have e1 : p.length + (u1 ++ u2).length + (e :: s2).length = p.length + (u1 ++ e :: u2).length + s2.length := by simp; omega
      have e2 : p.length + (u1 ++ u2).length + 1 = p.length + (u1 ++ e :: u2).length := by simp; omega
      rw [e1, e2, ← z3]
      simp
/-- insertion sorts a piece, and keeps equals as they stood. -/
theorem insertion_list (hT : ∀ x y z, R x y → R y z → R x z) (p s q : List α) (hs : s.Pairwise (Cr lt R)) :
    ∃ z, z.Perm s ∧ z.Pairwise R ∧ insertionSort lt (p ++ (s ++ q)).toArray p.length (p.length + s.length) = (p ++ (z ++ q)).toArray := by
  unfold insertionSort
  cases s with
  | nil => exact ⟨[], List.Perm.refl _, List.Pairwise.nil, by rw [insOuter_stop _ _ _ _ _ (by simp)]⟩
  | cons e s =>
    rw [List.pairwise_cons] at hs
    obtain ⟨z, z1, z2, z3⟩ := insOuter_list (lt := lt) hT p q s [e] (by simp) hs.2 (fun x hx y hy => by rw [List.mem_singleton] at hx; subst hx; exact hs.1 y hy)
    refine ⟨z, z1, z2, ?_⟩
    rw [← z3]
    have e1 : p.length + [e].length + s.length = p.length + (e :: s).length := by simp; omega
    rw [← e1]
    rfl

omit [Inhabited α] in
theorem last_all {xs : List α} (h : xs.Pairwise R) {z : α} (hz : xs.getLast? = some z) : ∀ u ∈ xs, u = z ∨ R u z := by
  rcases List.eq_nil_or_concat xs with rfl | ⟨ys, y, rfl⟩
  · simp at hz
  · rw [List.concat_eq_append] at *
    simp at hz
    subst hz
    rw [List.pairwise_append] at h
    intro u hu
    rcases List.mem_append.1 hu with hu | hu
    · exact Or.inr (h.2.2 u hu _ (by simp))
    · exact Or.inl (by simpa using hu)
omit [Inhabited α] in
theorem head_all {xs : List α} (h : xs.Pairwise R) {z : α} (hz : xs.head? = some z) : ∀ u ∈ xs, u = z ∨ R z u := by
  cases xs with
  | nil => simp at hz
  | cons y ys =>
    simp at hz; subst hz
    rw [List.pairwise_cons] at h
    intro u hu
    rcases List.mem_cons.1 hu with rfl | hu
    · exact Or.inl rfl
    · exact Or.inr (h.1 u hu)
omit [Inhabited α] in
theorem ends_all (hT : ∀ x y z, R x y → R y z → R x z) {xs ys : List α} (hx : xs.Pairwise R) (hy : ys.Pairwise R) (h : ∀ u v, xs.getLast? = some u → ys.head? = some v → R u v) : ∀ u ∈ xs, ∀ v ∈ ys, R u v := by
  intro u hu v hv
  cases hl : xs.getLast? with
  | none => rw [List.getLast?_eq_none_iff] at hl; subst hl; cases hu
  | some a =>
    cases hh : ys.head? with
    | none => rw [List.head?_eq_none_iff] at hh; subst hh; cases hv
    | some b =>
      have hab := h a b hl hh
      rcases last_all hx hl u hu with rfl | h1 <;> rcases head_all hy hh v hv with rfl | h2
      · exact hab
      · exact hT _ _ _ hab h2
      · exact hT _ _ _ h1 hab
      · exact hT _ _ _ h1 (hT _ _ _ hab h2)
omit [Inhabited α] in
theorem ins_one (hT : ∀ x y z, R x y → R y z → R x z) {y1 y2 : List α} {e : α} (hy : (y1 ++ y2).Pairwise R) (h1 : ∀ u, y1.getLast? = some u → R u e) (h2 : ∀ v, y2.head? = some v → R e v) : (y1 ++ e :: y2).Pairwise R := by
  rw [List.pairwise_append] at hy
  have a1 := ends_all hT hy.1 (ys := [e]) (by simp) (fun u v hu hv => by simp at hv; subst hv; exact h1 u hu)
  have a2 := ends_all hT (xs := [e]) (by simp) hy.2.1 (fun u v hu hv => by simp at hu; subst hu; exact h2 v hv)
  rw [List.pairwise_append, List.pairwise_cons]
  refine ⟨hy.1, ⟨fun b hb => a2 e (by simp) b hb, hy.2.1⟩, fun a ha b hb => ?_⟩
  rcases List.mem_cons.1 hb with rfl | hb
  · exact a1 a ha _ (by simp)
  · exact hy.2.2 a ha b hb
omit [Inhabited α] in
/-- Two sorted pieces, each cut in two, put together crosswise. -/
theorem merge_cut (hT : ∀ x y z, R x y → R y z → R x z) {x1 x2 y1 y2 z1 z2 : List α} (hx : (x1 ++ x2).Pairwise R) (hy : (y1 ++ y2).Pairwise R)
    (h1 : ∀ u v, x1.getLast? = some u → y2.head? = some v → R u v) (h2 : ∀ u v, y1.getLast? = some u → x2.head? = some v → R u v)
    (p1 : z1.Perm (x1 ++ y1)) (p2 : z2.Perm (x2 ++ y2)) (s1 : z1.Pairwise R) (s2 : z2.Pairwise R) : (z1 ++ z2).Perm ((x1 ++ x2) ++ (y1 ++ y2)) ∧ (z1 ++ z2).Pairwise R := by
  rw [List.pairwise_append] at hx hy
  have a1 := ends_all hT hx.1 hy.2.1 h1
  have a2 := ends_all hT hy.1 hx.2.1 h2
  refine ⟨?_, ?_⟩
  · refine (p1.append p2).trans ?_
    rw [List.append_assoc, List.append_assoc]
    refine List.Perm.append_left _ ?_
    rw [← List.append_assoc, ← List.append_assoc]
    exact List.Perm.append_right _ List.perm_append_comm
  · rw [List.pairwise_append]
    refine ⟨s1, s2, fun u hu v hv => ?_⟩
    have hu := p1.mem_iff.1 hu
    have hv := p2.mem_iff.1 hv
    rcases List.mem_append.1 hu with hu | hu <;> rcases List.mem_append.1 hv with hv | hv
    · exact hx.2.2 u hu v hv
    · exact a1 u hu v hv
    · exact a2 u hu v hv
    · exact hy.2.2 u hu v hv
end
end Go.Proofs.YtimkmieohkefiaaGreat

namespace Go.Proofs.YtimkmieohkefiaaGreat
open Go.RowKit Go.Lib Go.Sort Go.Shelf

abbrev aggS (A : Option Addr) (L c : Nat) (x : Sl) : Value := .agg (cellsS A L c x).toArray
/-- Two blocks that have just been laid. -/
theorem two_blocks (w : World) (xs ys : Array Value) (T U : TypeId) : (∀ j u, xs[j]? = some u → ((w.alloc (.cells xs T)).alloc (.cells ys U)).cell? ⟨w.heap.size, j, none⟩ = some u) ∧ (∀ j u, ys[j]? = some u → ((w.alloc (.cells xs T)).alloc (.cells ys U)).cell? ⟨w.heap.size + 1, j, none⟩ = some u) := by
  have e1 : (w.alloc (.cells xs T)).heap.size = w.heap.size + 1 := by simp
  have k := (Below.refl (w.heap.size + 1) (w.alloc (.cells xs T))).alloc (Nat.le_of_eq e1.symm) (.cells ys U)
  refine ⟨fun j u hj => (k.cell (p := ⟨w.heap.size, j, none⟩) (Nat.lt_succ_self _)).trans (by rw [cell_new]; exact hj), fun j u hj => ?_⟩
  rw [← e1, cell_new]; exact hj
set_option maxHeartbeats 1600000 in
theorem closureS_any (A : Option Addr) (L c : Nat) (x y : Sl) (w : World) : Calls Tryz.prog 79 #[aggS A L c x, aggS A L c y] w fun e w' => e = .returned (.int .i64 (cmpS x.s y.s)) ∧ GrW w w' := by
  obtain ⟨⟨x0, x1, x2, x3, x4, x5⟩, xA, xn, xc, xB, xm, xd⟩ := x
  obtain ⟨⟨y0, y1, y2, y3, y4, y5⟩, yA, yn, yc, yB, ym, yd⟩ := y
  have HC := Lib.hid (fun W => compareS_any ⟨x0, x1, x2, x3, x4, x5⟩ ⟨y0, y1, y2, y3, y4, y5⟩ W)
  show Calls Tryz.prog 79 #[.agg #[.int .i64 x0, .int .i64 x1, .int .i64 x2, .int .i64 x3, .slice A L c, .int .i64 x0, .int .i64 x1, .slice xA xn xc, .slice xB xm xd], .agg #[.int .i64 y0, .int .i64 y1, .int .i64 y2, .int .i64 y3, .slice A L c, .int .i64 y0, .int .i64 y1, .slice yA yn yc, .slice yB ym yd]] w fun e w' => e = .returned (.int .i64 (cmpS ⟨x0, x1, x2, x3, x4, x5⟩ ⟨y0, y1, y2, y3, y4, y5⟩)) ∧ GrW w w'
  generalize cmpS ⟨x0, x1, x2, x3, x4, x5⟩ ⟨y0, y1, y2, y3, y4, y5⟩ = r at *
  have HG := Lib.hid (((GrW.refl w).alloc (.cells #[.int .i64 x0, .int .i64 x1, .int .i64 x2, .int .i64 x3, .slice A L c, .int .i64 x0, .int .i64 x1, .slice xA xn xc, .slice xB xm xd] 97)).alloc (.cells #[.int .i64 y0, .int .i64 y1, .int .i64 y2, .int .i64 y3, .slice A L c, .int .i64 y0, .int .i64 y1, .slice yA yn yc, .slice yB ym yd] 97))
  have tb := two_blocks w #[.int .i64 x0, .int .i64 x1, .int .i64 x2, .int .i64 x3, .slice A L c, .int .i64 x0, .int .i64 x1, .slice xA xn xc, .slice xB xm xd] #[.int .i64 y0, .int .i64 y1, .int .i64 y2, .int .i64 y3, .slice A L c, .int .i64 y0, .int .i64 y1, .slice yA yn yc, .slice yB ym yd] 97 97
  have c0 := tb.1 0 _ rfl
  have c1 := tb.1 1 _ rfl
  have c2 := tb.1 2 _ rfl
  have c3 := tb.1 3 _ rfl
  have d0 := tb.2 0 _ rfl
  have d1 := tb.2 1 _ rfl
  have d2 := tb.2 2 _ rfl
  have d3 := tb.2 3 _ rfl
  clear tb
  go_enter Tryz.func79, Tryz.ntmps79
  go_wp2_with fail
  refine (HC.out _).mono ?_
  rintro e w1 ⟨rfl, g⟩
  have HG1 := Lib.hid (HG.out.trans g)
  clear g
  go_wp2_with fail
  go_ret
  exact ⟨rfl, HG1.out⟩
/-- The flat row of an array of structs. -/
theorem flatK_R {α : Type} [Inhabited α] (R : Rec α) (d : Array α) : (flatK R.cells R.m d).toList = R.flat d.toList := by
  have hp := R.pos
  refine List.ext_getElem? fun t => ?_
  by_cases h : t < d.size * R.m
  · have hq : t / R.m < d.size := (Nat.div_lt_iff_lt_mul hp).2 h
    have hm : t % R.m < R.m := Nat.mod_lt _ hp
    have e1 : (R.cells d[t / R.m]!)[t % R.m]? = some ((R.cells d[t / R.m]!)[t % R.m]!) := by
      rw [List.getElem!_eq_getElem?_getD, List.getElem?_eq_getElem (by rw [R.len]; exact hm)]; rfl
    have e2 := flatR_at R (l := d.toList) (k := t / R.m) (x := d[t / R.m]!) (by rw [Array.getElem?_toList, Array.getElem?_eq_getElem hq, getElem!_pos d _ hq]) (j := t % R.m) e1
    rw [Nat.mul_comm, Nat.div_add_mod] at e2
    rw [e2, Array.getElem?_toList, Array.getElem?_eq_getElem (by rw [size_flatK]; exact h)]
    have := get_flatK R.cells R.m d t h
    rw [getElem!_pos _ t (by rw [size_flatK]; exact h)] at this
    rw [this]
  · rw [List.getElem?_eq_none (by rw [Array.length_toList, size_flatK]; omega), List.getElem?_eq_none (by rw [flatR_len, Array.length_toList]; omega)]
theorem sortK_grown {α : Type} [Inhabited α] (R : Rec α) (w : World) (g m : Nat) (d : Array α) (os : Array Obj) : w.grownBy (sortWorldK R.cells R.m w g 0 m d os) (some g) := by
  refine ⟨rfl, rfl, rfl, ?_, fun i hi hne => ?_⟩
  · show w.heap.size ≤ (_ ++ os).size
    rw [Array.size_append]
    show w.heap.size ≤ (w.heap.modify g _).size + os.size
    rw [Array.size_modify]; omega
  · show (_ ++ os)[i]? = _
    rw [Array.getElem?_append_left (by show i < (w.heap.modify g _).size; rw [Array.size_modify]; omega)]
    show (w.heap.modify g _)[i]? = _
    rw [Array.getElem?_modify, if_neg (fun e => hne (by rw [e]))]
theorem ROwn.after_sort {α : Type} [Inhabited α] {R : Rec α} {T : TypeId} {w : World} {base g n c m : Nat} {l : List α} (h : ROwn R T w base (.slice (some ⟨g, 0, none⟩) n c) l) (hn : n = l.length) (d : Array α) (hd : d.size = l.length) (os : Array Obj) :
    ROwn R T (sortWorldK R.cells R.m w g 0 m d os) base (.slice (some ⟨g, 0, none⟩) n c) d.toList := by
  subst hn
  have hF := flatK_R R d
  have hFs : (flatK R.cells R.m d).size = d.size * R.m := size_flatK _ _ _
  refine ⟨by rw [flatR_len], ?_⟩
  rcases h.2 with ⟨e, _⟩ | ⟨g', cap, cur, e, hb, hh, h1, h2, h3, h4⟩
  · cases e
  · injection e with e1 e2 e3
    injection e1 with e1
    injection e1 with e1
    subst e1; subst e3
    have hlen : d.toList.length = l.length := by rw [Array.length_toList, hd]
    refine Or.inr ⟨g, c, putCells id 0 (flatK R.cells R.m d) cur, by rw [hlen], hb, ?_, by rw [hlen]; exact h1, h2, by unfold putCells; rw [Array.size_mapIdx]; exact h3, ?_⟩
    · have hg : g < w.heap.size := (Array.getElem?_eq_some_iff.1 hh).1
      show (_ ++ os)[g]? = _
      rw [Array.getElem?_append_left (by show g < (w.heap.modify g _).size; rw [Array.size_modify]; exact hg)]
      show (w.heap.modify g _)[g]? = _
      rw [Array.getElem?_modify, if_pos rfl, hh]
      rfl
    · rw [← hF, hlen, ← hd, ← hFs]
      generalize flatK R.cells R.m d = F at hFs
      have hc : F.size ≤ cur.size := by rw [hFs, h3, hd]; exact Nat.mul_le_mul_right _ h1
      refine List.ext_getElem? fun j => ?_
      rw [List.getElem?_take]
      by_cases hj : j < F.size
      · rw [if_pos hj]
        unfold putCells
        have hc : j < cur.size := by omega
        simp [Array.getElem?_toList, Array.getElem?_mapIdx, hc, hj]
      · rw [if_neg hj, List.getElem?_eq_none (by simp; omega)]
theorem holdsK_own {α : Type} [Inhabited α] {R : Rec α} {T : TypeId} {w : World} {base g n c : Nat} {l : List α} (h : ROwn R T w base (.slice (some ⟨g, 0, none⟩) n c) l) (hn : n = l.length) : HoldsK R.cells R.m w g 0 l.toArray := by
  subst hn
  have hF := flatK_R R l.toArray
  intro j hj
  have hj' : j < (R.flat l).length := by rw [size_flatK, List.size_toArray] at hj; rw [flatR_len]; exact hj
  refine ⟨?_, ?_⟩
  · have h1 := World.ownsRow.cellAt h j (by rw [← flatR_len]; exact hj')
    rw [Nat.zero_add]
    rw [h1, getElem!_pos _ j hj]
    have : (R.flat l)[j]? = some (flatK R.cells R.m l.toArray)[j] := by
      have e : R.flat l = (flatK R.cells R.m l.toArray).toList := hF.symm
      rw [e, Array.getElem?_toList, Array.getElem?_eq_getElem hj]
    rw [this]; rfl
  · rw [Nat.zero_add]; exact World.ownsRow.frozenAt h j
/-- Two solutions of different weights: the comparison says which one comes first. -/
theorem cmpS_lt {a b : Sc} : cmpS a b < 0 ↔ Bf a b := by
  unfold cmpS Bf Lib.compareInt
  constructor
  · intro h
    repeat' split at h
    all_goals omega
  · intro h
    repeat' split
    all_goals omega
abbrev ltS : Sl → Sl → Bool := ltOf fun x y : Sl => cmpS x.s y.s
abbrev BfS (x y : Sl) : Prop := Bf x.s y.s
theorem cr_S {x y : Sl} (h : x.s.wt ≠ y.s.wt) : Cr ltS BfS x y := by
  refine ⟨fun e => cmpS_lt.1 (of_decide_eq_true e), fun e => ?_⟩
  have : ¬ Bf y.s x.s := fun g => by
    have := cmpS_lt.2 g
    simp only [ltS, ltOf, decide_eq_false_iff_not] at e
    exact e this
  exact (bf_or h).resolve_right this
/-- What a sort of solutions leaves: another list in the same block, sorted; the rest as it was. -/
structure SortedR (A : Option Addr) (L c : Nat) (T : TypeId) (base g n cap : Nat) (l : List Sl) (w : World) (z : List Sl) (w' : World) : Prop where
  perm : z.Perm l
  asc : z.Pairwise BfS
  own : ROwn (SR A L c) T w' base (.slice (some ⟨g, 0, none⟩) n cap) z
  grown : w.grownBy w' (some g)
set_option maxRecDepth 100000 in
theorem insertS_any (A : Option Addr) (L c : Nat) {T : TypeId} {base g n cap : Nat} (l : List Sl) (w : World) (h : ROwn (SR A L c) T w base (.slice (some ⟨g, 0, none⟩) n cap) l) (hn : n = l.length) (h4 : n ≤ 1000) (hw : (l.map fun x => x.s.wt).Nodup) :
    Calls Tryz.prog 149 #[.slice (some ⟨g, 0, none⟩) n cap, .int .i64 0, .int .i64 (n : Int), .func (.func 79) #[] #[]] w fun e w' => e = .returned (.tuple #[]) ∧ ∃ z, SortedR A L c T base g n cap l w z w' := by
  have eg : ∀ args w, (callFunc 79 args).run Tryz.prog w = .ok (.enter 79 args) w := enters_of Tryz.func79 (by kernel_rfl) rfl
  have hH := holdsK_own h hn
  have hlt : g < w.heap.size := by
    rcases h.2 with ⟨e, _⟩ | ⟨g', cap', cur, e, hb, hh, _⟩
    · cases e
    · injection e with e1
      injection e1 with e1
      injection e1 with e1
      subst e1
      exact (Array.getElem?_eq_some_iff.1 hh).1
  have hcmp : CmpLays Tryz.prog 79 #[] (SR A L c).cells (SR A L c).m (fun x y : Sl => cmpS x.s y.s) g 0 l.toArray.size w := fun _ _ _ _ x y => (closureS_any A L c x y _).mono fun e w' h => ⟨h.1, h.2⟩
  have hc := AnyQ.insertionSortCmpFunc insK (SR A L c).m Tryz.isAgg97 Tryz.sizeOf97 (SR A L c).cells (SR A L c).len (SR A L c).one (fun x y : Sl => cmpS x.s y.s) 79 #[] g 0 cap 0 n l.toArray w eg hcmp hH hlt (Nat.zero_le _) (by simp [hn]) (by simp only [List.size_toArray]; omega)
  have hs : l.toArray.size = n := by simp [hn]
  rw [hs] at hc
  refine hc.mono ?_
  rintro e w' ⟨rfl, q, os, rfl⟩
  refine ⟨rfl, ?_⟩
  obtain ⟨z, z1, z2, z3⟩ := insertion_list (lt := ltS) (R := BfS) (fun x y z h k => Bf.trans h k) [] l [] (by
    rw [List.Nodup, List.pairwise_map] at hw
    exact hw.imp fun h => cr_S h)
  simp only [List.nil_append, List.append_nil, List.length_nil, Nat.zero_add] at z3
  rw [hn, z3]
  refine ⟨z, z1, z2, ?_, sortK_grown _ _ _ _ _ _⟩
  have := h.after_sort hn z.toArray (by simpa using z1.length_eq) os (m := q)
  rw [hn] at this
  simpa using this
theorem SortedR.id {A : Option Addr} {L c : Nat} {T : TypeId} {base g n cap : Nat} {l : List Sl} {w : World} {z : List Sl} {w' : World} (h : SortedR A L c T base g n cap l w z w') : True := trivial
set_option maxRecDepth 100000 in
set_option maxHeartbeats 1600000 in
theorem stableS_any (A : Option Addr) (L c : Nat) {T : TypeId} {base g n cap : Nat} (l : List Sl) (w : World) (h : ROwn (SR A L c) T w base (.slice (some ⟨g, 0, none⟩) n cap) l) (hn : n = l.length) (h4 : n ≤ 4) (hw : (l.map fun x => x.s.wt).Nodup) :
    Calls Tryz.prog 78 #[.slice (some ⟨g, 0, none⟩) n cap, .func (.func 79) #[] #[]] w fun e w' => e = .returned (.tuple #[]) ∧ ∃ z, SortedR A L c T base g n cap l w z w' := by
  have HI := Lib.hid (insertS_any A L c l w h hn (by omega) hw)
  clear h hw hn
  have hS : Calls Tryz.prog 122 #[.slice (some ⟨g, 0, none⟩) n cap, .int .i64 (n : Int), .func (.func 79) #[] #[]] w fun e w' => e = .returned (.tuple #[]) ∧ ∃ z, SortedR A L c T base g n cap l w z w' := by
    have h20 : ¬ (20 : Int) ≤ (n : Int) := by omega
    have h20' : ¬ (20 : Int) < (n : Int) := by omega
    go_enter Tryz.func122, Tryz.ntmps122
    go_wp2_with fail
    go_loopw [7, 8] (fun a b wr => a = .int .i64 0 ∧ b = .int .i64 20 ∧ Hid (wr = w)) (fun _ _ _ => 0)
    case atStart => exact ⟨rfl, rfl, Lib.hid rfl⟩
    case round =>
      obtain ⟨rfl, rfl, HW⟩ := hrel
      obtain rfl := HW.out
      go_wp2_with fail
      refine HI.out.mono ?_
      rintro e w1 ⟨rfl, z, hz⟩
      have HZ := Lib.hid hz
      clear hz
      go_wp2_with fail
      go_loopw [6] (fun a w2 => a = .int .i64 20 ∧ Hid (w2 = w1)) (fun _ _ => 0)
      case atStart => exact ⟨rfl, Lib.hid rfl⟩
      case round =>
        obtain ⟨rfl, HW2⟩ := hrel
        go_wp2_with fail
        go_end0
        exact ⟨rfl, z, by rw [HW2.out]; exact HZ.out⟩
  have HS := Lib.hid hS
  clear hS HI
  go_enter Tryz.func78, Tryz.ntmps78
  go_wp2_with fail
  refine HS.out.mono ?_
  rintro e w1 ⟨rfl, z, hz⟩
  have HZ := Lib.hid hz
  clear hz
  go_wp2_with fail
  go_end0
  exact ⟨rfl, z, HZ.out⟩
end Go.Proofs.YtimkmieohkefiaaGreat

namespace Go.Proofs.YtimkmieohkefiaaGreat
open Go.RowKit Go.Lib

theorem LeastR.none {l : List It} {wt st er : Int} {v : List Int} (h : LeastR l wt st v er) (he : er ≠ 0) : st = 0 ∧ v = [] ∧ WitR l wt [] er := by
  rcases h with ⟨h0, rfl, rfl, rfl⟩ | ⟨h0, rfl, rfl, rfl, h1⟩ | ⟨h0, rfl, _⟩
  · exact ⟨rfl, rfl, Or.inl ⟨h0, rfl, rfl⟩⟩
  · exact ⟨rfl, rfl, Or.inr (Or.inl ⟨h0, rfl, rfl, h1⟩)⟩
  · exact absurd rfl he
set_option maxRecDepth 100000 in
set_option maxHeartbeats 3200000 in
theorem make_any (l : List It) (A : Option Addr) (c L : Nat) (wt : Int) (hL : L = l.length) (w : World) (h : IRow w A l) :
    Calls Tryz.prog 33 #[jv A L c wt] w (MakePost l wt w) := by
  have s1 : (w.alloc (.cells #[.slice A L c, .int .i64 wt] 37)).heap.size = w.heap.size + 1 := by simp
  have B1 := (Below.refl w.heap.size w).alloc (Nat.le_refl _) (.cells #[.slice A L c, .int .i64 wt] 37)
  have b2 := (Below.refl (w.heap.size + 1) (w.alloc (.cells #[.slice A L c, .int .i64 wt] 37))).alloc (Nat.le_of_eq s1.symm) (qcells 0 none 0 0 none 0 0)
  have J0 := Lib.hid ((JBox.new (w := w) (A := A) (n := L) (c := c) (wt := wt) w.heap.size rfl).below b2 (Nat.lt_succ_self _))
  have Q0 := Lib.hid (QBox.new (w := w.alloc (.cells #[.slice A L c, .int .i64 wt] 37)) (st := 0) (A := none) (n := 0) (c := 0) (B := none) (m := 0) (d := 0) (w.heap.size + 1) s1.symm)
  have HB := Lib.hid (B1.trans (b2.mono (Nat.le_succ _)))
  have HLE := Lib.hid (fun (W : World) (k : Below w.heap.size w W) => least_any l A c L wt hL W (h.below k))
  have HWI := Lib.hid (fun (W : World) (k : Below w.heap.size w W) => witness_any l A c L wt hL W (h.below k))
  obtain ⟨b, hb⟩ : ∃ b, b = w.heap.size := ⟨_, rfl⟩
  have HBQ := Lib.hid hb
  clear h hL s1 B1 b2
  go_enter Tryz.func33, Tryz.ntmps33
  go_upto_region 1 with fail
  rw [← hb] at J0 Q0 ⊢
  generalize (w.alloc (.cells #[.slice A L c, .int .i64 wt] 37)).alloc (qcells 0 none 0 0 none 0 0) = w1 at *
  clear hb
  obtain ⟨j0, j1, jl⟩ := J0.out
  go_wp2_with fail
  refine (HLE.out w1 HB.out).mono ?_
  rintro e w2 ⟨st, vA, vn, vc, er, v, rfl, OV, B2, hr⟩
  have hlt1 : b + 1 < w1.heap.size := Q0.out.lt
  have BX := (Below.refl w2.heap.size w2).alloc (Nat.le_refl _) (.cells #[.int .i64 st, .slice vA vn vc] 39)
  have P3 := Lib.hid (PBox.new (w := w2) (st := st) (A := vA) (n := vn) (c := vc) w2.heap.size rfl)
  have J3 := Lib.hid ((J0.out.below B2 J0.out.lt).below BX (J0.out.below B2 J0.out.lt).lt)
  have Q3 := Lib.hid ((Q0.out.below B2 Q0.out.lt).below BX (Q0.out.below B2 Q0.out.lt).lt)
  have HB2 := HB.out.trans (B2.mono HB.out.size)
  have HB3 := Lib.hid (HB2.trans (BX.mono HB2.size))
  have OV3 := Lib.hid ((OV.base (show w1.heap.size ≤ w1.heap.size from Nat.le_refl _)).below BX)
  have hs12 : w1.heap.size ≤ w2.heap.size := B2.size
  have HR := Lib.hid hr
  clear j0 j1 jl J0 Q0 HB B2 OV hr BX HB2 HLE
  go_upto_region 2 with fail
  obtain ⟨g, hg⟩ : ∃ g, g = w2.heap.size := ⟨_, rfl⟩
  rw [← hg] at P3 hs12 ⊢
  generalize w2.alloc (.cells #[.int .i64 st, .slice vA vn vc] 39) = w3 at *
  clear hg
  obtain ⟨j0, j1, jl⟩ := J3.out
  obtain ⟨q0, q1, q2, qf, ql⟩ := Q3.out
  have f0 := qf 0
  have f1 := qf 1
  have f2 := qf 2
  clear qf
  by_cases he : er = 0
  · subst he
    go_wp2_with fail
    refine (HWI.out w3 HB3.out).mono ?_
    rintro e w4 ⟨u, er2, ch, rfl, OU, B4, hw⟩
    obtain ⟨he2, -⟩ := HR.out.wit hw
    have HW := Lib.hid hw
    subst he2
    obtain ⟨uA, uc, rfl, -, -, -, -⟩ := OU.slice
    obtain ⟨un, hun⟩ : ∃ n, n = ch.length := ⟨_, rfl⟩
    rw [← hun] at OU ⊢
    have Q4 := Lib.hid (Q3.out.below B4 Q3.out.lt)
    have P4 := Lib.hid (P3.out.below B4 P3.out.lt)
    have HB4 := Lib.hid (HB3.out.trans (B4.mono HB3.out.size))
    have OV4 := Lib.hid (OV3.out.below B4)
    have OU4 := Lib.hid (OU.base (show w1.heap.size ≤ w3.heap.size by have := P3.out.lt; omega))
    have PP := Lib.hid (Q4.out.put)
    clear q0 q1 q2 ql f0 f1 f2 j0 j1 jl B4 OU hw hun J3 Q3 P3 HB3 OV3
    obtain ⟨q0, q1, q2, qf, ql⟩ := Q4.out
    have f0 := qf 0
    have f1 := qf 1
    have f2 := qf 2
    clear qf
    obtain ⟨p0, p1, -, pl⟩ := P4.out
    go_wp2_with fail
    refine bodyPost_ret (results_proof rfl _ _ (b + 1) st 0 vA uA vn vc un uc rfl rfl (PP.out st vA vn vc uA un uc)) rfl ?_
    have hbw := HBQ.out
    have nv : ∀ q, (Value.slice vA vn vc).ownBlock = some q → q ≠ b + 1 := fun q e => by have := (own_block OV4.out e).1; omega
    have nu : ∀ q, (Value.slice uA un uc).ownBlock = some q → q ≠ b + 1 := fun q e => by have := (own_block OU4.out e).1; omega
    refine ⟨st, vA, vn, vc, uA, un, uc, 0, v, ch, rfl, ?_, ?_, ?_, ⟨HR.out, HW.out⟩⟩
    · exact ((((OV4.out.base (by omega)).setN (p := ⟨b + 1, 0, none⟩) nv _).setN (p := ⟨b + 1, 1, none⟩) nv _).setN (p := ⟨b + 1, 2, none⟩) nv _)
    · exact ((((OU4.out.base (by omega)).setN (p := ⟨b + 1, 0, none⟩) nu _).setN (p := ⟨b + 1, 1, none⟩) nu _).setN (p := ⟨b + 1, 2, none⟩) nu _)
    · exact ((HB4.out.setCell (p := ⟨b + 1, 0, none⟩) (by show w.heap.size ≤ b + 1; omega) _).setCell (p := ⟨b + 1, 1, none⟩) (by show w.heap.size ≤ b + 1; omega) _).setCell (p := ⟨b + 1, 2, none⟩) (by show w.heap.size ≤ b + 1; omega) _
  · have hne : (er != 0) = true := bne_iff_ne.2 he
    have PP := Lib.hid (Q3.out.put)
    have HWN := Lib.hid (HR.out.none he)
    have HE := Lib.hid he
    clear he
    go_wp2_with fail
    refine bodyPost_ret (results_proof rfl _ _ (b + 1) 0 er none none 0 0 0 0 rfl rfl (PP.out 0 none 0 0 none 0 0)) rfl ?_
    have hbw := HBQ.out
    obtain ⟨e1, e2, e3⟩ := HWN.out
    refine ⟨0, none, 0, 0, none, 0, 0, er, [], [], rfl, Own.nil, Own.nil, ?_, ⟨by have := HR.out; rwa [e1, e2] at this, e3⟩⟩
    exact ((HB3.out.setCell (p := ⟨b + 1, 0, none⟩) (by show w.heap.size ≤ b + 1; omega) _).setCell (p := ⟨b + 1, 1, none⟩) (by show w.heap.size ≤ b + 1; omega) _).setCell (p := ⟨b + 1, 2, none⟩) (by show w.heap.size ≤ b + 1; omega) _
end Go.Proofs.YtimkmieohkefiaaGreat

namespace Go.Proofs.YtimkmieohkefiaaGreat
open Go.RowKit Go.Lib

/-- The greatest of 0 and the first k. -/
def mx0 (v : List Int) : Nat → Int
  | 0 => 0
  | k + 1 => max2 (mx0 v k) (v.getD k 0)
theorem mx0_le (v : List Int) : ∀ k, (0 ≤ mx0 v k) ∧ ∀ y, y < k → v.getD y 0 ≤ mx0 v k := by
  intro k
  induction k with
  | zero => exact ⟨Int.le_refl _, fun y hy => by cases hy⟩
  | succ k ih =>
    obtain ⟨i1, i2⟩ := ih
    have e : mx0 v (k + 1) = if mx0 v k < v.getD k 0 then v.getD k 0 else mx0 v k := rfl
    refine ⟨by rw [e]; split <;> omega, fun y hy => ?_⟩
    rcases Nat.lt_or_ge y k with g | g
    · have := i2 y g; rw [e]; split <;> omega
    · obtain rfl : y = k := by omega
      rw [e]; split <;> omega
theorem mx0_top {v : List Int} {y : Nat} (h : IsTop v y) (hv : ∀ y, 0 ≤ v.getD y 0) : mx0 v v.length = v.getD y 0 := by
  have h1 := (mx0_le v v.length).2 y h.lt
  have h2 : ∀ k, k ≤ v.length → mx0 v k ≤ v.getD y 0 := by
    intro k
    induction k with
    | zero => intro _; exact hv y
    | succ k ih =>
      intro hk
      have := ih (by omega)
      have := h.le k (by omega)
      show max2 (mx0 v k) (v.getD k 0) ≤ _
      unfold max2; split <;> omega
  have := h2 v.length (Nat.le_refl _)
  omega
theorem mx0_topV {v : List Int} {M : Int} (h : TopV v v.length M) (hv : ∀ y, 0 ≤ v.getD y 0) : mx0 v v.length = M := by
  obtain ⟨x, hx, e⟩ := h.hit
  have h1 := (mx0_le v v.length).2 x hx
  have h2 : ∀ k, k ≤ v.length → mx0 v k ≤ M := by
    intro k
    induction k with
    | zero => intro _; have := hv x; show (0 : Int) ≤ M; omega
    | succ k ih =>
      intro hk
      have := ih (by omega)
      have := h.le k (by omega)
      show max2 (mx0 v k) (v.getD k 0) ≤ _
      unfold max2; split <;> omega
  have := h2 v.length (Nat.le_refl _)
  omega
theorem steps_mx0 {v : List Int} {st : Int} (h : StepsOf v st) (hv : ∀ y, 0 ≤ v.getD y 0) : st = (ln (mx0 v v.length).toNat : Int) := by
  rcases h with ⟨rfl, rfl⟩ | ⟨M, hM, rfl⟩
  · rfl
  · rw [mx0_topV hM hv]
end Go.Proofs.YtimkmieohkefiaaGreat

namespace Go.Proofs.YtimkmieohkefiaaGreat
open Go.RowKit Go.Lib

theorem chk_parts {l : List It} {wt st : Int} {v ch : List Int} (h : chkE l wt st v ch = 0) : val14 l wt st v = 0 ∧ ordB l v = true ∧ (boundE l wt ch).2 = 0 ∧ (stepsZ (boundE l wt ch).1).1 = st := by
  unfold chkE at h
  by_cases h1 : val14 l wt st v = 0
  · rw [if_neg (fun g => g h1)] at h
    cases h2 : ordB l v with
    | false => rw [if_pos h2] at h; cases h
    | true =>
      rw [if_neg (by rw [h2]; exact Bool.noConfusion)] at h
      by_cases h3 : (boundE l wt ch).2 = 0
      · rw [if_neg (fun g => g h3)] at h
        by_cases h4 : (stepsZ (boundE l wt ch).1).1 = st
        · exact ⟨h1, rfl, h3, h4⟩
        · rw [if_neg h4] at h; cases h
      · rw [if_pos h3] at h; exact absurd h h3
  · rw [if_pos h1] at h; exact absurd h h1
/-- What Make answers of a valid job. -/
theorem MakeR.ok {l : List It} {wt st er : Int} {v ch : List Int} (hv : validR l wt = 0) (h : MakeR l wt st v ch er) : (er = 15 ∧ st = 0 ∧ v = [] ∧ ch = []) ∨ (er = 0 ∧ v.length = l.length ∧ (0 ≤ st ∧ st ≤ 12) ∧ ∀ x, 0 ≤ v.getD x 0 ∧ v.getD x 0 ≤ 4095) := by
  have hw := (h.1.wit h.2).2
  rcases h.1.valid hv with ⟨h1, _⟩ | ⟨h1, bs, h2, h3⟩
  · have := hw (by omega)
    exact Or.inl ⟨h1, this.1, this.2.1, this.2.2⟩
  · have h0 := h2.bound (formOk_of hv)
    refine Or.inr ⟨h1, h2.vlen, ?_, fun x => (h0 x).1⟩
    rcases h3 with ⟨_, rfl⟩ | ⟨M, _, rfl⟩
    · omega
    · have := ln_le M.toNat
      omega
/-- A proof in a block of a law's own. -/
structure QSt (wr : World) (m g : Nat) (st : Int) (A : Option Addr) (n c : Nat) (B : Option Addr) (nn d : Nat) (v ch : List Int) : Prop where
  box : QBox wr g st A n c B nn d
  ov : Own .i64 3 wr (m + 1) (.slice A n c) v
  ou : Own .i64 3 wr (m + 1) (.slice B nn d) ch
  nv : ∀ q, (Value.slice A n c).ownBlock = some q → q ≠ g
  nu : ∀ q, (Value.slice B nn d).ownBlock = some q → q ≠ g
  lt : m < g
theorem own_read {k : IntKind} {T : TypeId} {w : World} {base n c : Nat} {A : Option Addr} {v : List Int} (h : Own k T w base (.slice A n c) v) : n = v.length ∧ Row k w w.heap.size A v ∧ v.length ≤ maxLen := by
  obtain ⟨A', c', ev, LR, -, hm, -⟩ := h.slice
  injection ev with e1 e2
  subst e1
  exact ⟨e2, LR, hm⟩
theorem QSt.below {w w' : World} {m g n c nn d : Nat} {st : Int} {A B : Option Addr} {v ch : List Int} (h : QSt w m g st A n c B nn d v ch) (k : Below w.heap.size w w') : QSt w' m g st A n c B nn d v ch :=
  ⟨h.box.below k h.box.lt, h.ov.below k, h.ou.below k, h.nv, h.nu, h.lt⟩
theorem QSt.step {w w' : World} {m g n c nn d : Nat} {st : Int} {A B : Option Addr} {v ch : List Int} (h : QSt w m g st A n c B nn d v ch) (k : Moves m w w') : QSt w' m g st A n c B nn d v ch :=
  ⟨h.box.moves k (by have := h.lt; omega), h.ov.moves k (Nat.lt_succ_self _), h.ou.moves k (Nat.lt_succ_self _), h.nv, h.nu, h.lt⟩
theorem QSt.new {w2 : World} {base m n c nn d : Nat} {st : Int} {A B : Option Addr} {v ch : List Int} (O : Own .i64 3 w2 base (.slice A n c) v) (U : Own .i64 3 w2 base (.slice B nn d) ch) (hb : m + 1 ≤ base) (g : Nat) (hg : g = w2.heap.size) (hm : m < g) : QSt (w2.alloc (qcells st A n c B nn d)) m g st A n c B nn d v ch :=
  have k := (Below.refl w2.heap.size w2).alloc (Nat.le_refl _) (qcells st A n c B nn d)
  ⟨QBox.new g hg, (O.base hb).below k, (U.base hb).below k, fun q e => by have := (own_block O e).2; omega, fun q e => by have := (own_block U e).2; omega, hm⟩
/-- Other values are stored into it. -/
theorem QSt.put {w : World} {m g n c nn d n' c' nn' d' : Nat} {st st' : Int} {A B A' B' : Option Addr} {v ch v' ch' : List Int} (h : QSt w m g st A n c B nn d v ch) (O : Own .i64 3 w (m + 1) (.slice A' n' c') v') (U : Own .i64 3 w (m + 1) (.slice B' nn' d') ch')
    (nv : ∀ q, (Value.slice A' n' c').ownBlock = some q → q ≠ g) (nu : ∀ q, (Value.slice B' nn' d').ownBlock = some q → q ≠ g) :
    QSt (((w.setCell ⟨g, 0, none⟩ (.int .i64 st')).setCell ⟨g, 1, none⟩ (.slice A' n' c')).setCell ⟨g, 2, none⟩ (.slice B' nn' d')) m g st' A' n' c' B' nn' d' v' ch' :=
  ⟨h.box.put st' A' n' c' B' nn' d', ((O.setN (p := ⟨g, 0, none⟩) nv _).setN (p := ⟨g, 1, none⟩) nv _).setN (p := ⟨g, 2, none⟩) nv _, ((U.setN (p := ⟨g, 0, none⟩) nu _).setN (p := ⟨g, 1, none⟩) nu _).setN (p := ⟨g, 2, none⟩) nu _, nv, nu, h.lt⟩
theorem QBox.setO {w : World} {b n c m d : Nat} {st : Int} {A B : Option Addr} (h : QBox w b st A n c B m d) {p : Addr} (hp : p.block ≠ b) (u : Value) : QBox (w.setCell p u) b st A n c B m d :=
  have e : ∀ j, (⟨b, j, none⟩ : Addr) ≠ p := fun j e => hp (congrArg Addr.block e).symm
  ⟨by rw [World.cell?_setCell_other _ _ _ _ (Ne.symm (e _))]; exact h.c0, by rw [World.cell?_setCell_other _ _ _ _ (Ne.symm (e _))]; exact h.c1, by rw [World.cell?_setCell_other _ _ _ _ (Ne.symm (e _))]; exact h.c2, fun j => by rw [World.frozen?_setCell]; exact h.f j, by rw [World.size_setCell]; exact h.lt⟩
end Go.Proofs.YtimkmieohkefiaaGreat

namespace Go.Proofs.YtimkmieohkefiaaGreat
open Go.RowKit Go.Lib

/-- What holds while the rounds are cleared. -/
structure ZSt (w wr : World) (b : Nat) (A : Option Addr) (c : Nat) (l : List It) (wt : Int) : Prop where
  box : JBox wr b A l.length c wt
  own : IOwn 52 wr (w.heap.size + 1) (.slice A l.length c) l
  lo : ∀ g, (Value.slice A l.length c).ownBlock = some g → g < b
  bel : Below w.heap.size w wr
  lt : w.heap.size < b
theorem ZSt.below {w wr w' : World} {b c : Nat} {A : Option Addr} {l : List It} {wt : Int} (h : ZSt w wr b A c l wt) (k : Below wr.heap.size wr w') : ZSt w w' b A c l wt :=
  ⟨h.box.below k h.box.lt, h.own.below k, h.lo, h.bel.trans (k.mono h.bel.size), h.lt⟩
def lnB (x : Nat) : Bool := decide (x < 2 ^ ln x) && (x == 0 || decide (2 ^ (ln x - 1) ≤ x))
set_option maxRecDepth 100000 in
theorem lnB_all : allT lnB 12 0 = true := by decide +kernel
theorem ln_bd {x : Nat} (h : x < 4096) : x < 2 ^ ln x ∧ (x ≠ 0 → 2 ^ (ln x - 1) ≤ x) := by
  have e := allT_all lnB_all h
  unfold lnB at e
  simp only [Bool.and_eq_true, decide_eq_true_eq, Bool.or_eq_true, beq_iff_eq] at e
  exact ⟨e.1, fun g => e.2.resolve_left g⟩
/-- The least codes fit their job. -/
theorem sol_pl {l : List It} {wt st : Int} {bs v : List Int} (hv : validR l wt = 0) (h : Sol l wt bs v) (hs : StepsOf v st) : ∃ S : Nat, st = (S : Int) ∧ Pl l wt S v := by
  have hf := formOk_of hv
  have hp := h.plan hf
  have hb := fun y => (h.bound hf y).1
  have key : ∀ S : Nat, S ≤ 12 → (∀ y, y < l.length → v.getD y 0 < ((2 ^ S : Nat) : Int)) → Pl l wt S v := fun S hS hlt => by
    refine ⟨hv, fitB_iff.2 ⟨by omega, h.vlen, fun y hy => ?_⟩⟩
    unfold okC
    have e : (2 : Int) ^ ((S : Int)).toNat = ((2 ^ S : Nat) : Int) := by simp
    rw [e, decide_eq_true (hlt y hy)]
    obtain ⟨K, hK, hc⟩ := hp.code y hy
    obtain ⟨R, hR⟩ := Int.eq_ofNat_of_zero_le (hf.rb y hy).1
    obtain ⟨V, hV⟩ := Int.eq_ofNat_of_zero_le hf.wb.1
    rw [hR, hV] at hc
    rw [hK, hR, hV, isZ_nat (by have := (hf.rb y hy).2; omega) (by have := hf.wb.2; omega)]
    exact hc
  rcases hs with ⟨e, rfl⟩ | ⟨M, hM, rfl⟩
  · refine ⟨0, rfl, key 0 (Nat.zero_le _) (fun y hy => ?_)⟩
    rw [← h.vlen, e] at hy; cases hy
  · obtain ⟨x, hx, hxM⟩ := hM.hit
    have hMb := hb x
    rw [hxM] at hMb
    obtain ⟨m, rfl⟩ := Int.eq_ofNat_of_zero_le hMb.1
    have hl := ln_bd (x := m) (by omega)
    refine ⟨ln m, by rw [Int.toNat_natCast], key (ln m) (ln_le m) (fun y hy => ?_)⟩
    have h1 := hM.le y (by rw [h.vlen]; exact hy)
    have h2 := hl.1
    omega
end Go.Proofs.YtimkmieohkefiaaGreat

namespace Go.Proofs.YtimkmieohkefiaaGreat
open Go.RowKit Go.Lib

/-- Block b holds exactly these cells. -/
def AB (T : TypeId) (w : World) (b : Nat) (cs : List Value) : Prop := w.heap[b]? = some (.cells cs.toArray T (0, 0))
section
variable {T : TypeId} {w w' : World} {b : Nat} {cs : List Value}
theorem AB.lt (h : AB T w b cs) : b < w.heap.size := (Array.getElem?_eq_some_iff.1 h).1
theorem AB.below {B : Nat} (h : AB T w b cs) (k : Below B w w') (hb : b < B) : AB T w' b cs := (k.block b hb).trans h
theorem AB.drewN (h : AB T w b cs) (n : Nat) : AB T (w.drewN n) b cs := h
theorem AB.cell (h : AB T w b cs) (j : Nat) {u : Value} (hj : cs[j]? = some u) : w.cell? ⟨b, j, none⟩ = some u := by
  unfold World.cell?
  rw [h]
  simp [hj]
theorem AB.frozen (h : AB T w b cs) (j : Nat) : w.frozen? ⟨b, j, none⟩ = false := frozen_of_row w b j _ T h
theorem AB.new (w : World) (cs : List Value) (T : TypeId) (b : Nat) (hb : b = w.heap.size) : AB T (w.alloc (.cells cs.toArray T)) b cs := by subst hb; exact heap_alloc_new w _
theorem AB.set (h : AB T w b cs) (j : Nat) (u : Value) : AB T (w.setCell ⟨b, j, none⟩ u) b (cs.set j u) := by
  have := heap_setCell_same w b j _ T u h
  unfold AB
  rw [this]
  simp
theorem AB.setO (h : AB T w b cs) {p : Addr} (hp : p.block ≠ b) (u : Value) : AB T (w.setCell p u) b cs := by
  show (w.heap.modify p.block _)[b]? = _
  rw [Array.getElem?_modify, if_neg hp]
  exact h
theorem AB.rblk {α : Type} {R : Rec α} {x : α} (h : AB T w b cs) (e : cs = R.cells x) : RBlk R w b x := ⟨fun j u hj => h.cell j (by rw [e]; exact hj), h.lt⟩
end
theorem results_rec2 {α : Type} {R : Rec α} {fn : Func} {p q : Tmp} {T : TypeId} {d : TypeDesc} (hf : fn.results = #[.cell p T, .tmp q]) (hu : Tryz.prog.underlying T = some d) (hd : (match d with | .struct _ | .array _ _ => true | _ => false) = true) (hi : (Tryz.prog.info? T).map (·.size) = some R.m) (tmps : Array Value) (w : World) (b : Nat) (x : α) {u : Value}
    (hp : tmps.getD p undef = .pointer (some ⟨b, 0, none⟩)) (hq : tmps.getD q undef = u) (h : RBlk R w b x) : (results fn tmps).run Tryz.prog w = .ok (.tuple #[.agg (R.cells x).toArray, u]) w := by
  have hp' : tmps[p]?.getD undef = .pointer (some ⟨b, 0, none⟩) := by simpa using hp
  have hq' : tmps[q]?.getD undef = u := by simpa using hq
  have hL := loadVar_rec hu hd hi h
  simp [results, hf, hp', hq', asAddr, hL, Sem.run_bind]
theorem infoSol : (Tryz.prog.info? 97).map (·.size) = some 9 := by kernel_rfl
/-- A plan that Make returns fits. -/
theorem make_pl {l : List It} {wt st : Int} {v ch : List Int} (h : MakeR l wt st v ch 0) : validR l wt = 0 ∧ val14 l wt st v = 0 ∧ ∃ S : Nat, st = (S : Int) ∧ Pl l wt S v := by
  rcases h.1 with ⟨h1, h2, _⟩ | ⟨_, h2, _⟩ | ⟨h1, _, ⟨bs, h3⟩, h4⟩
  · exact absurd h2.symm h1
  · cases h2
  · obtain ⟨S, hS, hp⟩ := sol_pl h1 h3 h4
    refine ⟨h1, ?_, S, hS, hp⟩
    unfold val14
    rw [if_pos h1, hS, if_pos hp.fit]
theorem run_ok {l : List It} {wt st : Int} {v : List Int} {w w' : World} {e : Ending} (h : RunPost l wt st v w e w') (hv : val14 l wt st v = 0) : ∃ A n c, e = .returned (.tuple #[srtv A n c (mvZ l st v), .int .i64 0]) ∧ Below w.heap.size w w' := by
  rcases h with ⟨h1, _⟩ | ⟨_, S, gt, rfl, hp, rfl, C⟩
  · exact absurd hv h1
  · exact ⟨_, _, _, rfl, C.bel⟩
theorem push_ok {l : List It} {wt st : Int} {v : List Int} (hv : val14 l wt st v = 0) : pushZ l wt st v = ((pushZ l wt st v).1, 0) := by unfold pushZ; rw [if_pos hv]
/-- What solutionFor leaves. -/
def SfPost (l : List It) (A : Option Addr) (L c : Nat) (wt : Int) (w : World) (e : Ending) (w' : World) : Prop :=
  (∃ st v ch er, MakeR l wt st v ch er ∧ er ≠ 0 ∧ e = .returned (.tuple #[aggS none 0 0 default, .bool false]) ∧ Below w.heap.size w w') ∨
  (∃ x : Sl, ScR l x.s ∧ x.s.wt = wt ∧ e = .returned (.tuple #[aggS A L c x, .bool true]) ∧ Own .i64 3 w' w.heap.size (.slice x.vA x.vn x.vc) x.s.v ∧ Own .i64 3 w' w.heap.size (.slice x.uA x.un x.uc) x.s.ch ∧ Below w.heap.size w w')
abbrev zeroS : List Value := [.int .i64 0, .int .i64 0, .int .i64 0, .int .i64 0, .slice none 0 0, .int .i64 0, .int .i64 0, .slice none 0 0, .slice none 0 0]
abbrev set9 (w : World) (b : Nat) (u0 u1 u2 u3 u4 u5 u6 u7 u8 : Value) : World := ((((((((w.setCell ⟨b, 0, none⟩ u0).setCell ⟨b, 1, none⟩ u1).setCell ⟨b, 2, none⟩ u2).setCell ⟨b, 3, none⟩ u3).setCell ⟨b, 4, none⟩ u4).setCell ⟨b, 5, none⟩ u5).setCell ⟨b, 6, none⟩ u6).setCell ⟨b, 7, none⟩ u7).setCell ⟨b, 8, none⟩ u8
theorem AB.put9 {T : TypeId} {w : World} {b : Nat} (h : AB T w b zeroS) (u0 u1 u2 u3 u4 u5 u6 u7 u8 : Value) : AB T (set9 w b u0 u1 u2 u3 u4 u5 u6 u7 u8) b [u0, u1, u2, u3, u4, u5, u6, u7, u8] :=
  ((((((((h.set 0 u0).set 1 u1).set 2 u2).set 3 u3).set 4 u4).set 5 u5).set 6 u6).set 7 u7).set 8 u8
theorem Below.put9 {B : Nat} {w0 w : World} {b : Nat} (h : Below B w0 w) (hb : B ≤ b) (u0 u1 u2 u3 u4 u5 u6 u7 u8 : Value) : Below B w0 (set9 w b u0 u1 u2 u3 u4 u5 u6 u7 u8) :=
  ((((((((h.setCell (p := ⟨b, 0, none⟩) hb u0).setCell (p := ⟨b, 1, none⟩) hb u1).setCell (p := ⟨b, 2, none⟩) hb u2).setCell (p := ⟨b, 3, none⟩) hb u3).setCell (p := ⟨b, 4, none⟩) hb u4).setCell (p := ⟨b, 5, none⟩) hb u5).setCell (p := ⟨b, 6, none⟩) hb u6).setCell (p := ⟨b, 7, none⟩) hb u7).setCell (p := ⟨b, 8, none⟩) hb u8
theorem Own.put9 {k : IntKind} {T : TypeId} {w : World} {base b : Nat} {v : Value} {zs : List Int} (h : Own k T w base v zs) (hb : ∀ q, v.ownBlock = some q → q ≠ b) (u0 u1 u2 u3 u4 u5 u6 u7 u8 : Value) : Own k T (set9 w b u0 u1 u2 u3 u4 u5 u6 u7 u8) base v zs :=
  ((((((((h.setN (p := ⟨b, 0, none⟩) hb u0).setN (p := ⟨b, 1, none⟩) hb u1).setN (p := ⟨b, 2, none⟩) hb u2).setN (p := ⟨b, 3, none⟩) hb u3).setN (p := ⟨b, 4, none⟩) hb u4).setN (p := ⟨b, 5, none⟩) hb u5).setN (p := ⟨b, 6, none⟩) hb u6).setN (p := ⟨b, 7, none⟩) hb u7).setN (p := ⟨b, 8, none⟩) hb u8
set_option maxRecDepth 100000 in
set_option maxHeartbeats 6400000 in
theorem solfor_any (l : List It) (A : Option Addr) (c L : Nat) (wt : Int) (hL : L = l.length) (w : World) (h : IRow w A l) :
    Calls Tryz.prog 77 #[jv A L c wt] w (SfPost l A L c wt w) := by
  have s1 : (w.alloc (.cells #[.slice A L c, .int .i64 wt] 37)).heap.size = w.heap.size + 1 := by simp
  have B1 := (Below.refl w.heap.size w).alloc (Nat.le_refl _) (.cells #[.slice A L c, .int .i64 wt] 37)
  have b2 := (Below.refl (w.heap.size + 1) (w.alloc (.cells #[.slice A L c, .int .i64 wt] 37))).alloc (Nat.le_of_eq s1.symm) (.cells #[.int .i64 0, .int .i64 0, .int .i64 0, .int .i64 0, .slice none 0 0, .int .i64 0, .int .i64 0, .slice none 0 0, .slice none 0 0] 97)
  have J0 := Lib.hid ((JBox.new (w := w) (A := A) (n := L) (c := c) (wt := wt) w.heap.size rfl).below b2 (Nat.lt_succ_self _))
  have Z0 := Lib.hid (AB.new (w.alloc (.cells #[.slice A L c, .int .i64 wt] 37)) zeroS 97 (w.heap.size + 1) s1.symm)
  have HB := Lib.hid (B1.trans (b2.mono (Nat.le_succ _)))
  have HM := Lib.hid (fun (W : World) (k : Below w.heap.size w W) => make_any l A c L wt hL W (h.below k))
  have HRu := Lib.hid (fun (st : Int) (v : List Int) (vA : Option Addr) (vn vc : Nat) (hn : vn = v.length) (hm : v.length ≤ maxLen) (W : World) (k : Below w.heap.size w W) (hp : Row .i64 W W.heap.size vA v) => run_any l A c L wt st v vA vn vc hL hn W (h.below k) hp hm)
  have HPu := Lib.hid (fun (st : Int) (v : List Int) (vA : Option Addr) (vn vc : Nat) (hn : vn = v.length) (hm : v.length ≤ maxLen) (W : World) (k : Below w.heap.size w W) (hp : Row .i64 W W.heap.size vA v) => pushes_any l A c L wt st v vA vn vc hL hn W (h.below k) hp hm)
  obtain ⟨b, hb⟩ : ∃ b, b = w.heap.size := ⟨_, rfl⟩
  have HBQ := Lib.hid hb
  clear h hL s1 B1 b2
  go_enter Tryz.func77, Tryz.ntmps77
  go_upto_region 1 with fail
  rw [← hb] at J0 Z0 ⊢
  generalize (w.alloc (.cells #[.slice A L c, .int .i64 wt] 37)).alloc (.cells #[.int .i64 0, .int .i64 0, .int .i64 0, .int .i64 0, .slice none 0 0, .int .i64 0, .int .i64 0, .slice none 0 0, .slice none 0 0] 97) = w1 at *
  clear hb
  obtain ⟨j0, j1, jl⟩ := J0.out
  go_wp2_with fail
  refine (HM.out w1 HB.out).mono ?_
  rintro e w2 ⟨st, vA, vn, vc, uA, un, uc, er, v, ch, rfl, OV, OU, B2, hr⟩
  have BX := (Below.refl w2.heap.size w2).alloc (Nat.le_refl _) (qcells st vA vn vc uA un uc)
  have J3 := Lib.hid ((J0.out.below B2 J0.out.lt).below BX (J0.out.below B2 J0.out.lt).lt)
  have Z3 := Lib.hid ((Z0.out.below B2 Z0.out.lt).below BX (Z0.out.below B2 Z0.out.lt).lt)
  have Q3 := Lib.hid (QBox.new (w := w2) (st := st) (A := vA) (n := vn) (c := vc) (B := uA) (m := un) (d := uc) w2.heap.size rfl)
  have HB2 := HB.out.trans (B2.mono HB.out.size)
  have HB3 := Lib.hid (HB2.trans (BX.mono HB2.size))
  have OV3 := Lib.hid (OV.below BX)
  have OU3 := Lib.hid (OU.below BX)
  have HS := Lib.hid (And.intro J0.out.lt (And.intro Z0.out.lt B2.size))
  have HR := Lib.hid hr
  clear j0 j1 jl J0 Z0 HB B2 OV OU hr BX HB2 HM
  go_upto_region 2 with fail
  obtain ⟨g, hg⟩ : ∃ g, g = w2.heap.size := ⟨_, rfl⟩
  rw [← hg] at Q3 HS ⊢
  generalize w2.alloc (qcells st vA vn vc uA un uc) = w3 at *
  clear hg
  by_cases he : er = 0
  · subst he
    obtain ⟨hv, h14, -⟩ := make_pl HR.out
    have hov := own_read OV3.out
    have HRC := Lib.hid (HRu.out st v vA vn vc hov.1 hov.2.2 w3 HB3.out hov.2.1)
    have HOV := Lib.hid (And.intro hov.1 hov.2.2)
    have H14 := Lib.hid h14
    clear hv h14 hov HRu
    obtain ⟨j0, j1, jl⟩ := J3.out
    obtain ⟨q0, q1, q2, qf, ql⟩ := Q3.out
    clear qf
    go_wp2_with fail
    refine HRC.out.mono ?_
    intro e w4 hp
    obtain ⟨RA, rn, rc, rfl, B4⟩ := run_ok hp H14.out
    have BY := (Below.refl w4.heap.size w4).alloc (Nat.le_refl _) (.cells #[.slice RA rn rc, .int .i64 (mvZ l st v)] 79)
    have B34 := B4.trans (BY.mono B4.size)
    have J5 := Lib.hid (J3.out.below B34 J3.out.lt)
    have Z5 := Lib.hid (Z3.out.below B34 Z3.out.lt)
    have Q5 := Lib.hid (Q3.out.below B34 Q3.out.lt)
    have OV5 := Lib.hid (OV3.out.below B34)
    have OU5 := Lib.hid (OU3.out.below B34)
    have HB5 := Lib.hid (HB3.out.trans (B34.mono HB3.out.size))
    have R5 := Lib.hid (And.intro (show (w4.alloc (.cells #[.slice RA rn rc, .int .i64 (mvZ l st v)] 79)).cell? ⟨w4.heap.size, 1, none⟩ = some (.int .i64 (mvZ l st v)) by rw [cell_new]; rfl) (show w4.heap.size < (w4.alloc (.cells #[.slice RA rn rc, .int .i64 (mvZ l st v)] 79)).heap.size by simp))
    have HL4 := Lib.hid B4.size
    clear hp B4 BY B34 HRC J3 Z3 Q3 OV3 OU3 HB3 j0 j1 jl q0 q1 q2 ql
    go_upto_region 5 with fail
    obtain ⟨r, hr⟩ : ∃ r, r = w4.heap.size := ⟨_, rfl⟩
    rw [← hr] at R5 HL4 ⊢
    generalize w4.alloc (.cells #[.slice RA rn rc, .int .i64 (mvZ l st v)] 79) = w5 at *
    clear hr
    have HPC := Lib.hid (HPu.out st v vA vn vc HOV.out.1 HOV.out.2 w5 HB5.out (own_read OV5.out).2.1)
    clear HPu HOV
    obtain ⟨j0, j1, jl⟩ := J5.out
    obtain ⟨q0, q1, q2, qf, ql⟩ := Q5.out
    clear qf
    go_wp2_with fail
    refine HPC.out.mono ?_
    rintro e w6 ⟨rfl, B6⟩
    rw [push_ok H14.out]
    have J7 := Lib.hid (J5.out.below B6 J5.out.lt)
    have Z7 := Lib.hid (Z5.out.below B6 Z5.out.lt)
    have Q7 := Lib.hid (Q5.out.below B6 Q5.out.lt)
    have OV7 := Lib.hid (OV5.out.below B6)
    have OU7 := Lib.hid (OU5.out.below B6)
    have HB7 := Lib.hid (HB5.out.trans (B6.mono HB5.out.size))
    have R7 := Lib.hid (show w6.cell? ⟨r, 1, none⟩ = some (.int .i64 (mvZ l st v)) from (B6.cell (p := ⟨r, 1, none⟩) R5.out.2).trans R5.out.1)
    clear B6 HPC J5 Z5 Q5 OV5 OU5 HB5 R5 j0 j1 jl q0 q1 q2 ql
    obtain ⟨mv, hmv⟩ : ∃ z, z = mvZ l st v := ⟨_, rfl⟩
    obtain ⟨pu, hpu⟩ : ∃ z, z = (pushZ l wt st v).1 := ⟨_, rfl⟩
    rw [← hmv] at R7
    rw [← hpu]
    have HMP := Lib.hid (And.intro hmv hpu)
    clear hmv hpu
    have r1 := R7.out
    obtain ⟨j0, j1, jl⟩ := J7.out
    obtain ⟨q0, q1, q2, qf, ql⟩ := Q7.out
    clear qf
    go_upto_region 7 with fail
    have BZ := (Below.refl w6.heap.size w6).alloc (Nat.le_refl _) (.cells #[.int .i64 wt, .int .i64 st, .int .i64 mv, .int .i64 pu] 70)
    have J8 := Lib.hid (J7.out.below BZ J7.out.lt)
    have Z8 := Lib.hid (Z7.out.below BZ Z7.out.lt)
    have Q8 := Lib.hid (Q7.out.below BZ Q7.out.lt)
    have OV8 := Lib.hid (OV7.out.below BZ)
    have OU8 := Lib.hid (OU7.out.below BZ)
    have HB8 := Lib.hid (HB7.out.trans (BZ.mono HB7.out.size))
    have Y8 := Lib.hid (show AB 70 (w6.alloc (.cells #[.int .i64 wt, .int .i64 st, .int .i64 mv, .int .i64 pu] 70)) w6.heap.size [.int .i64 wt, .int .i64 st, .int .i64 mv, .int .i64 pu] from AB.new w6 [.int .i64 wt, .int .i64 st, .int .i64 mv, .int .i64 pu] 70 w6.heap.size rfl)
    clear j0 j1 jl q0 q1 q2 ql r1 J7 Z7 Q7 OV7 OU7 HB7 R7 BZ
    obtain ⟨y, hy⟩ : ∃ y, y = w6.heap.size := ⟨_, rfl⟩
    rw [← hy] at Y8 ⊢
    generalize w6.alloc (.cells #[.int .i64 wt, .int .i64 st, .int .i64 mv, .int .i64 pu] 70) = w8 at *
    clear hy
    have y0 := Y8.out.cell 0 (u := .int .i64 wt) rfl
    have y1 := Y8.out.cell 1 (u := .int .i64 st) rfl
    have y2 := Y8.out.cell 2 (u := .int .i64 mv) rfl
    have y3 := Y8.out.cell 3 (u := .int .i64 pu) rfl
    obtain ⟨j0, j1, jl⟩ := J8.out
    obtain ⟨q0, q1, q2, qf, ql⟩ := Q8.out
    clear qf
    have z0 := Z8.out.cell 0 (u := zeroS.getD 0 undef) rfl
    have f0 := Z8.out.frozen 0
    have z1 := Z8.out.cell 1 (u := zeroS.getD 1 undef) rfl
    have f1 := Z8.out.frozen 1
    have z2 := Z8.out.cell 2 (u := zeroS.getD 2 undef) rfl
    have f2 := Z8.out.frozen 2
    have z3 := Z8.out.cell 3 (u := zeroS.getD 3 undef) rfl
    have f3 := Z8.out.frozen 3
    have z4 := Z8.out.cell 4 (u := zeroS.getD 4 undef) rfl
    have f4 := Z8.out.frozen 4
    have z5 := Z8.out.cell 5 (u := zeroS.getD 5 undef) rfl
    have f5 := Z8.out.frozen 5
    have z6 := Z8.out.cell 6 (u := zeroS.getD 6 undef) rfl
    have f6 := Z8.out.frozen 6
    have z7 := Z8.out.cell 7 (u := zeroS.getD 7 undef) rfl
    have f7 := Z8.out.frozen 7
    have z8 := Z8.out.cell 8 (u := zeroS.getD 8 undef) rfl
    have f8 := Z8.out.frozen 8
    have HP := Lib.hid (Z8.out.put9)
    go_wp2_with fail
    have hbw := HBQ.out
    refine bodyPost_ret (results_rec2 (R := SR A L c) (x := ⟨⟨wt, st, mv, pu, v, ch⟩, vA, vn, vc, uA, un, uc⟩) rfl Tryz.underlying97 rfl infoSol _ _ (b + 1) rfl rfl ((HP.out _ _ _ _ _ _ _ _ _).rblk rfl)) rfl ?_
    refine Or.inr ⟨⟨⟨wt, st, mv, pu, v, ch⟩, vA, vn, vc, uA, un, uc⟩, ⟨HR.out, HMP.out.1, HMP.out.2⟩, rfl, rfl, ?_, ?_, Below.put9 HB8.out (by omega) _ _ _ _ _ _ _ _ _⟩
    · exact Own.put9 (OV8.out.base (by have := HS.out; omega)) (fun q e => by have h1 := (own_block OV8.out e).1; have := HS.out; omega) _ _ _ _ _ _ _ _ _
    · exact Own.put9 (OU8.out.base (by have := HS.out; omega)) (fun q e => by have h1 := (own_block OU8.out e).1; have := HS.out; omega) _ _ _ _ _ _ _ _ _
  · have hne : (er != 0) = true := bne_iff_ne.2 he
    have HE := Lib.hid he
    clear he
    have z0 := Z3.out.cell 0 (u := zeroS.getD 0 undef) rfl
    have f0 := Z3.out.frozen 0
    have z1 := Z3.out.cell 1 (u := zeroS.getD 1 undef) rfl
    have f1 := Z3.out.frozen 1
    have z2 := Z3.out.cell 2 (u := zeroS.getD 2 undef) rfl
    have f2 := Z3.out.frozen 2
    have z3 := Z3.out.cell 3 (u := zeroS.getD 3 undef) rfl
    have f3 := Z3.out.frozen 3
    have z4 := Z3.out.cell 4 (u := zeroS.getD 4 undef) rfl
    have f4 := Z3.out.frozen 4
    have z5 := Z3.out.cell 5 (u := zeroS.getD 5 undef) rfl
    have f5 := Z3.out.frozen 5
    have z6 := Z3.out.cell 6 (u := zeroS.getD 6 undef) rfl
    have f6 := Z3.out.frozen 6
    have z7 := Z3.out.cell 7 (u := zeroS.getD 7 undef) rfl
    have f7 := Z3.out.frozen 7
    have z8 := Z3.out.cell 8 (u := zeroS.getD 8 undef) rfl
    have f8 := Z3.out.frozen 8
    have HP := Lib.hid (Z3.out.put9)
    go_wp2_with fail
    have hbw := HBQ.out
    refine bodyPost_ret (results_rec2 (R := SR none 0 0) (x := default) rfl Tryz.underlying97 rfl infoSol _ _ (b + 1) rfl rfl ((HP.out _ _ _ _ _ _ _ _ _).rblk rfl)) rfl ?_
    exact Or.inl ⟨st, v, ch, er, HR.out, HE.out, rfl, Below.put9 HB3.out (by omega) _ _ _ _ _ _ _ _ _⟩
end Go.Proofs.YtimkmieohkefiaaGreat

namespace Go.Proofs.YtimkmieohkefiaaGreat
open Go.RowKit Go.Lib

theorem le_allocG {base : Nat} {w : World} {o : Obj} (h : base ≤ w.heap.size) : base ≤ (w.alloc o).heap.size := by rw [World.size_alloc]; omega
/-- What an append to structs of the call's own leaves. -/
def AppR {α : Type} (R : Rec α) (T : TypeId) (base : Nat) (v : Value) (l ys : List α) (W : World) (v' : Value) (w' : World) : Prop :=
  ROwn R T w' base v' (l ++ ys) ∧ W.grownBy w' v.ownBlock ∧ ∃ g c, v' = .slice (some ⟨g, 0, none⟩) (l.length + ys.length) c ∧ g < w'.heap.size
/-- append(v, ys..) onto structs of the call's own, ys just laid. -/
theorem wpList_appR {α : Type} (R : Rec α) {sT eT : TypeId} {zv : Value} {by_ : Nat} (hu : Tryz.prog.underlying sT = some (.slice eT)) (hinf : (Tryz.prog.info? eT).map (fun i => (i.zero, i.size, i.bytes)) = some (some zv, R.m, by_)) (hzv : zv.cells.size = R.m) (hby : by_ ≤ 1000)
    (W : World) {ops : Array Oper} {rest : List Oper} {o : Oper} {a : Act} {Q : Exit → Act → World → Prop} (hgd : o.guard = none) (s x : Operand)
    (ho : o.op = .call { callee := .builtin .append, args := #[s, x], argTypes := #[sT, sT] }) (base : Nat) (v : Value) (l : List α) (hs : a.eval s = v) (O : ROwn R eT W base v l)
    (ys : List α) (w0 : World) (hW : W = w0.alloc (.cells (R.flat ys).toArray eT)) (z : Nat) (hz : w0.heap.size = z) (m c : Nat) (hm : ys.length = m) (h0 : 0 < m) (hx : a.eval x = .slice (some ⟨z, 0, none⟩) m c)
    (hl : l.length + m ≤ 1000000000) (hb : base ≤ W.heap.size)
    (h : ∀ v' w', AppR R eT base v l ys W v' w' → wpList Tryz.prog ops Q rest (a.put o.dst v') w') : wpList Tryz.prog ops Q (o :: rest) a W := by
  obtain ⟨i0, hi, hz0, hz1, hz2⟩ := info_parts hinf
  subst hm
  subst hz
  refine wpList_append_lies W hgd s x sT ho base eT i0 zv R.m by_ hu hi hz0 hz1 hz2 hzv R.pos v l.length (R.flat l) hs O ⟨w0.heap.size, 0, none⟩ ys.length c (R.flat ys) hx (flatR_len R ys) (by rw [hW]; exact newR (R := R)) (flatR_one R ys) h0 (by unfold maxLen; omega) (Nat.le_trans (Nat.mul_le_mul hl hby) (by decide)) hb W.heap.size rfl ?_
  intro g cap w1 hown hg hat hlt
  exact h _ w1 ⟨ROwn.app (R := R) hown rfl rfl, hg, g, cap, rfl, hlt⟩
/-- Rows of different element types never share a block. -/
theorem rown_apart {α : Type} {R : Rec α} {T U : TypeId} {k : IntKind} {w : World} {base base' : Nat} {u v : Value} {l : List α} {zs : List Int} (h : ROwn R T w base u l) (h' : Own k U w base' v zs) (hT : T ≠ U) : v.ownBlock = none ∨ v.ownBlock ≠ u.ownBlock := by
  rcases h'.2 with ⟨rfl, _⟩ | ⟨g', cap', cur', rfl, _, hh', _⟩
  · exact Or.inl rfl
  · refine Or.inr fun e => ?_
    rcases h.2 with ⟨rfl, _⟩ | ⟨g, cap, cur, rfl, _, hh, _⟩
    · cases e
    · simp only [Value.ownBlock, Option.some.injEq] at e
      subst e
      rw [hh] at hh'
      injection hh' with hh'
      injection hh' with _ h2
      exact hT h2
theorem tsol_ne : (97 : TypeId) ≠ 3 := by decide
/-- Solutions of the call's own, with their codes and chains. -/
structure Sls (A : Option Addr) (L c : Nat) (w : World) (base : Nat) (v : Value) (xs : List Sl) : Prop where
  own : ROwn (SR A L c) 97 w base v xs
  ov : ∀ x ∈ xs, Own .i64 3 w base (.slice x.vA x.vn x.vc) x.s.v
  ou : ∀ x ∈ xs, Own .i64 3 w base (.slice x.uA x.un x.uc) x.s.ch
section
variable {A : Option Addr} {L c : Nat} {w w' : World} {base : Nat} {v : Value} {xs : List Sl}
theorem Sls.nil : Sls A L c w base (.slice none 0 0) [] := ⟨ROwn.nil, (fun x hx => by cases hx), (fun x hx => by cases hx)⟩
theorem Sls.below (h : Sls A L c w base v xs) (k : Below w.heap.size w w') : Sls A L c w' base v xs := ⟨h.own.below k, fun x hx => (h.ov x hx).below k, fun x hx => (h.ou x hx).below k⟩
theorem Sls.base_ {base' : Nat} (h : Sls A L c w base v xs) (hb : base' ≤ base) : Sls A L c w base' v xs := ⟨h.own.base hb, fun x hx => (h.ov x hx).base hb, fun x hx => (h.ou x hx).base hb⟩
/-- A further solution is appended. -/
theorem Sls.snoc {x : Sl} {v' : Value} (h : Sls A L c w base v xs) (hv : Own .i64 3 w base (.slice x.vA x.vn x.vc) x.s.v) (hu : Own .i64 3 w base (.slice x.uA x.un x.uc) x.s.ch) (k : AppR (SR A L c) 97 base v xs [x] w v' w') : Sls A L c w' base v' (xs ++ [x]) := by
  refine ⟨k.1, fun y hy => ?_, fun y hy => ?_⟩
  · rcases List.mem_append.1 hy with hy | hy
    · exact (h.ov y hy).kept k.2.1 (rown_apart h.own (h.ov y hy) tsol_ne)
    · rw [List.mem_singleton] at hy; subst hy; exact hv.kept k.2.1 (rown_apart h.own hv tsol_ne)
  · rcases List.mem_append.1 hy with hy | hy
    · exact (h.ou y hy).kept k.2.1 (rown_apart h.own (h.ou y hy) tsol_ne)
    · rw [List.mem_singleton] at hy; subst hy; exact hu.kept k.2.1 (rown_apart h.own hu tsol_ne)
theorem Sls.sorted {g n cap : Nat} {z : List Sl} (h : Sls A L c w base (.slice (some ⟨g, 0, none⟩) n cap) xs) (k : SortedR A L c 97 base g n cap xs w z w') : Sls A L c w' base (.slice (some ⟨g, 0, none⟩) n cap) z :=
  ⟨k.own, fun y hy => by have hy := k.perm.mem_iff.1 hy; exact (h.ov y hy).kept k.grown (rown_apart h.own (h.ov y hy) tsol_ne), fun y hy => by have hy := k.perm.mem_iff.1 hy; exact (h.ou y hy).kept k.grown (rown_apart h.own (h.ou y hy) tsol_ne)⟩
end
theorem below_grown {B : Nat} {w0 w w' : World} {v : Value} (h : Below B w0 w) (k : w.grownBy w' v.ownBlock) (hb : ∀ g, v.ownBlock = some g → B ≤ g) (hB : B ≤ w.heap.size) : Below B w0 w' :=
  h.trans ⟨k.os, k.tape, k.output, k.size, fun i hi => k.block i (by omega) (fun e => by have := hb i e.symm; omega)⟩
def SolvPost (l : List It) (A : Option Addr) (L c : Nat) (w : World) (e : Ending) (w' : World) : Prop :=
  (solE l ≠ 0 ∧ e = .returned (.tuple #[.slice none 0 0, .int .i64 (solE l)]) ∧ Below w.heap.size w w') ∨
  (solE l = 0 ∧ ∃ xs g cap, e = .returned (.tuple #[.slice (some ⟨g, 0, none⟩) xs.length cap, .int .i64 0]) ∧ Srt17 (scL l) (xs.map Sl.s) ∧ Sls A L c w' w.heap.size (.slice (some ⟨g, 0, none⟩) xs.length cap) xs ∧ Below w.heap.size w w')
theorem infoSolF : (Tryz.prog.info? 97).map (fun i => (i.zero, i.size, i.bytes)) = some (some (aggS none 0 0 default), 9, 120) := by kernel_rfl
theorem aggS_lit (A : Option Addr) (L c : Nat) (x0 x1 x2 x3 : Int) (xv xh : List Int) (xA : Option Addr) (xn xc : Nat) (xB : Option Addr) (xm xd : Nat) : aggS A L c ⟨⟨x0, x1, x2, x3, xv, xh⟩, xA, xn, xc, xB, xm, xd⟩ = .agg #[.int .i64 x0, .int .i64 x1, .int .i64 x2, .int .i64 x3, .slice A L c, .int .i64 x0, .int .i64 x1, .slice xA xn xc, .slice xB xm xd] := rfl
theorem aggS_zero : aggS none 0 0 default = .agg #[.int .i64 0, .int .i64 0, .int .i64 0, .int .i64 0, .slice none 0 0, .int .i64 0, .int .i64 0, .slice none 0 0, .slice none 0 0] := rfl
theorem wts_cell (w : World) (k : Nat) (hk : k < 4) : (w.alloc (.cells #[.int .i64 0, .int .i64 1, .int .i64 2, .int .i64 12] 3)).cell? ⟨w.heap.size, k, none⟩ = some (.int .i64 (wts.getD k 0)) := by
  rw [cell_new]
  match k, hk with
  | 0, _ => rfl
  | 1, _ => rfl
  | 2, _ => rfl
  | 3, _ => rfl
theorem solE_bad {l : List It} (h : validR l 0 ≠ 0) : solE l = validR l 0 := if_pos h
theorem solE_none {l : List It} (h : validR l 0 = 0) (h0 : (scL l).length = 0) : solE l = 15 := by unfold solE; rw [if_neg (fun g => g h), if_pos h0]
theorem solE_ok {l : List It} (h : validR l 0 = 0) (h0 : (scL l).length ≠ 0) : solE l = 0 := by unfold solE; rw [if_neg (fun g => g h), if_neg h0]
set_option maxRecDepth 100000 in
set_option maxHeartbeats 6400000 in
theorem psolve_any (l : List It) (A : Option Addr) (c L : Nat) (hL : L = l.length) (w : World) (h : IRow w A l) :
    Calls Tryz.prog 43 #[.slice A L c] w (SolvPost l A L c w) := by
  have HV := Lib.hid (show Calls Tryz.prog 72 #[jv A L c 0] w _ from by rw [hL]; exact valid_any l A c 0 w h)
  have HSF := Lib.hid (fun (wt : Int) (W : World) (k : Below w.heap.size w W) => solfor_any l A c L wt hL W (h.below k))
  have HST := Lib.hid (fun (base g n cap : Nat) (xs : List Sl) => stableS_any A L c (T := 97) (base := base) (g := g) (n := n) (cap := cap) xs)
  clear h hL
  go_enter Tryz.func43, Tryz.ntmps43
  go_wp2_with fail
  refine HV.out.mono ?_
  rintro e w1 ⟨rfl, B1⟩
  by_cases hv : validR l 0 = 0
  · rw [hv]
    have HW := Lib.hid (wts_cell w1)
    have HB := Lib.hid (B1.trans ((box1W w1 (.cells #[.int .i64 0, .int .i64 1, .int .i64 2, .int .i64 12] 3)).mono B1.size))
    have HVZ := Lib.hid hv
    have HLT := Lib.hid (show w1.heap.size < (w1.alloc (.cells #[.int .i64 0, .int .i64 1, .int .i64 2, .int .i64 12] 3)).heap.size by simp)
    clear hv B1 HV
    go_upto_region 6 with fail
    obtain ⟨z, hz⟩ : ∃ z, z = w1.heap.size := ⟨_, rfl⟩
    rw [← hz] at HW HLT ⊢
    generalize w1.alloc (.cells #[.int .i64 0, .int .i64 1, .int .i64 2, .int .i64 12] 3) = w2 at *
    clear hz
    obtain ⟨bb, hbb⟩ : ∃ b, b = w2.heap.size := ⟨_, rfl⟩
    have HBB := Lib.hid hbb
    rw [← hbb] at HLT
    clear hbb
    go_loopw [5, 18] (fun v5 iv wr => ∃ (xs : List Sl) (k : Nat), k ≤ 4 ∧ iv = .int .i64 (k : Int) ∧ Hid (xs.map Sl.s = scK l k) ∧ Hid (Sls A L c wr bb v5 xs) ∧ Hid (Below bb w2 wr)) (fun _ iv _ => 4 - (intOf iv).toNat)
    case atStart => exact ⟨[], 0, by decide, rfl, Lib.hid rfl, Lib.hid Sls.nil, Lib.hid (by rw [HBB.out]; exact Below.refl _ _)⟩
    case round =>
      obtain ⟨xs, k, hk, rfl, HX, HS, HR⟩ := hrel
      have hsz : bb ≤ wr.heap.size := by rw [HBB.out]; exact HR.out.size
      have HZ := Lib.hid hsz
      clear hsz
      by_cases hlt : k < 4
      · have ck := (HR.out.cell (p := ⟨z, k, none⟩) HLT.out).trans (HW.out k hlt)
        have hwb := wts_bd hlt
        obtain ⟨wt, hwt⟩ : ∃ y, y = wts.getD k 0 := ⟨_, rfl⟩
        rw [← hwt] at ck hwb
        have HWT := Lib.hid hwt
        have HK := Lib.hid hlt
        have HC := Lib.hid (HSF.out wt wr (HB.out.trans (HR.out.mono (by rw [HBB.out]; exact HB.out.size))))
        have HWB := Lib.hid hwb
        clear hwt hwb
        go_wp2_with fail
        refine HC.out.mono ?_
        rintro e w3 (⟨st, v, ch, er, hm, he, rfl, b3⟩ | ⟨⟨⟨x0, x1, x2, x3, xv, xh⟩, xA, xn, xc, xB, xm, xd⟩, hs, hw, rfl, ov, ou, b3⟩)
        · rw [aggS_zero]
          have HX' := Lib.hid (show xs.map Sl.s = scK l (k + 1) by rw [HX.out]; exact (scK_no HK.out (by rw [← HWT.out]; exact hm) he).symm)
          have b4 := b3.trans ((box1W w3 (.cells #[.int .i64 0, .int .i64 0, .int .i64 0, .int .i64 0, .slice none 0 0, .int .i64 0, .int .i64 0, .slice none 0 0, .slice none 0 0] 97)).mono b3.size)
          have HS' := Lib.hid (HS.out.below b4)
          have HR' := Lib.hid (HR.out.trans (b4.mono HZ.out))
          clear hm he b3 b4 HX HS HR HC ck
          go_wp2_with fail
          go_roundw
          case rel => exact ⟨xs, k + 1, by omega, by go_num, HX', HS', HR'⟩
          case measure => simp [intOf]; omega
        · rw [aggS_lit]
          simp only at hw ov ou
          have HX' := Lib.hid (show (xs ++ [(⟨⟨x0, x1, x2, x3, xv, xh⟩, xA, xn, xc, xB, xm, xd⟩ : Sl)]).map Sl.s = scK l (k + 1) by
            rw [List.map_append, HX.out]
            exact (scK_some HK.out hs (by rw [← HWT.out]; exact hw)).symm)
          have b4 := b3.trans ((box1W w3 (.cells #[.int .i64 x0, .int .i64 x1, .int .i64 x2, .int .i64 x3, .slice A L c, .int .i64 x0, .int .i64 x1, .slice xA xn xc, .slice xB xm xd] 97)).mono b3.size)
          have HS4 := Lib.hid (HS.out.below b4)
          have HR4 := Lib.hid (HR.out.trans (b4.mono HZ.out))
          have OV4 := Lib.hid ((ov.base HZ.out).below (box1W w3 (.cells #[.int .i64 x0, .int .i64 x1, .int .i64 x2, .int .i64 x3, .slice A L c, .int .i64 x0, .int .i64 x1, .slice xA xn xc, .slice xB xm xd] 97)))
          have OU4 := Lib.hid ((ou.base HZ.out).below (box1W w3 (.cells #[.int .i64 x0, .int .i64 x1, .int .i64 x2, .int .i64 x3, .slice A L c, .int .i64 x0, .int .i64 x1, .slice xA xn xc, .slice xB xm xd] 97)))
          have Y4 := Lib.hid (show AB 97 (w3.alloc (.cells #[.int .i64 x0, .int .i64 x1, .int .i64 x2, .int .i64 x3, .slice A L c, .int .i64 x0, .int .i64 x1, .slice xA xn xc, .slice xB xm xd] 97)) w3.heap.size [.int .i64 x0, .int .i64 x1, .int .i64 x2, .int .i64 x3, .slice A L c, .int .i64 x0, .int .i64 x1, .slice xA xn xc, .slice xB xm xd] from AB.new w3 [.int .i64 x0, .int .i64 x1, .int .i64 x2, .int .i64 x3, .slice A L c, .int .i64 x0, .int .i64 x1, .slice xA xn xc, .slice xB xm xd] 97 w3.heap.size rfl)
          have HZ4 := Lib.hid (show bb ≤ (w3.alloc (.cells #[.int .i64 x0, .int .i64 x1, .int .i64 x2, .int .i64 x3, .slice A L c, .int .i64 x0, .int .i64 x1, .slice xA xn xc, .slice xB xm xd] 97)).heap.size by have := HZ.out; have := b3.size; simp; omega)
          have HLX := Lib.hid (show xs.length ≤ 4 by have := congrArg List.length HX.out; rw [List.length_map] at this; have := scK_len l k; omega)
          clear hs hw ov ou b3 b4 HX HS HR HC ck
          go_upto_region 10 with fail
          obtain ⟨y, hy⟩ : ∃ y, y = w3.heap.size := ⟨_, rfl⟩
          rw [← hy] at Y4 ⊢
          generalize w3.alloc (.cells #[.int .i64 x0, .int .i64 x1, .int .i64 x2, .int .i64 x3, .slice A L c, .int .i64 x0, .int .i64 x1, .slice xA xn xc, .slice xB xm xd] 97) = w4 at *
          clear hy
          have y0 := Y4.out.cell 0 (u := .int .i64 x0) rfl
          have y1 := Y4.out.cell 1 (u := .int .i64 x1) rfl
          have y2 := Y4.out.cell 2 (u := .int .i64 x2) rfl
          have y3 := Y4.out.cell 3 (u := .int .i64 x3) rfl
          have y4 := Y4.out.cell 4 (u := .slice A L c) rfl
          have y5 := Y4.out.cell 5 (u := .int .i64 x0) rfl
          have y6 := Y4.out.cell 6 (u := .int .i64 x1) rfl
          have y7 := Y4.out.cell 7 (u := .slice xA xn xc) rfl
          have y8 := Y4.out.cell 8 (u := .slice xB xm xd) rfl
          obtain ⟨vA5, vc5, hv5, -⟩ := HS4.out.own.slice
          subst hv5
          have HO5 := Lib.hid HS4.out.own
          go_wp2_with (first | (at_builtin; refine wpList_appR (SR A L c) Tryz.underlying93 infoSolF rfl (by decide) _ rfl (.tmp 30) (.tmp 32) rfl bb _ xs rfl (HO5.out.alloc _) [⟨⟨x0, x1, x2, x3, xv, xh⟩, xA, xn, xc, xB, xm, xd⟩] w4 rfl _ rfl 1 1 rfl (by decide) rfl (by have := HLX.out; omega) (le_allocG HZ4.out) ?_; intro v6 w6 A6))
          have HS6 := Lib.hid ((HS4.out.below (box1W w4 (.cells #[.int .i64 x0, .int .i64 x1, .int .i64 x2, .int .i64 x3, .slice A L c, .int .i64 x0, .int .i64 x1, .slice xA xn xc, .slice xB xm xd] 97))).snoc (x := ⟨⟨x0, x1, x2, x3, xv, xh⟩, xA, xn, xc, xB, xm, xd⟩) (OV4.out.below (box1W w4 _)) (OU4.out.below (box1W w4 _)) A6)
          have HR6 := Lib.hid (below_grown (HR4.out.trans ((box1W w4 (.cells #[.int .i64 x0, .int .i64 x1, .int .i64 x2, .int .i64 x3, .slice A L c, .int .i64 x0, .int .i64 x1, .slice xA xn xc, .slice xB xm xd] 97)).mono HZ4.out)) A6.2.1 (fun g hg => (HO5.out.block hg).1) (le_allocG HZ4.out))
          clear A6
          go_roundw
          case rel => exact ⟨xs ++ [⟨⟨x0, x1, x2, x3, xv, xh⟩, xA, xn, xc, xB, xm, xd⟩], k + 1, by omega, by go_num, HX', HS6, HR6⟩
          case measure => simp [intOf]; omega
      · obtain ⟨vA5, vc5, hv5, -, -, -, hg5, hn5⟩ := HS.out.own.full
        subst hv5
        have HX4 := Lib.hid (show xs.map Sl.s = scL l by have : k = 4 := by omega
                                                         rw [HX.out, this]; rfl)
        have HLX := Lib.hid (show xs.length ≤ 4 by have := congrArg List.length HX.out; rw [List.length_map] at this; have := scK_len l k; omega)
        have HWB := Lib.hid (HB.out.trans (HR.out.mono (by rw [HBB.out]; exact HB.out.size)))
        have HBW := Lib.hid (show w.heap.size ≤ bb by rw [HBB.out]; exact HB.out.size)
        obtain ⟨n, hn⟩ : ∃ n, n = xs.length := ⟨_, rfl⟩
        rw [← hn] at HLX hg5
        have HN := Lib.hid hn
        rw [← hn]
        have HS' := Lib.hid (show Sls A L c wr bb (.slice vA5 n vc5) xs by rw [hn]; exact HS.out)
        clear hn5 hn HX HS HR
        by_cases h0 : n = 0
        · subst h0
          have HE := Lib.hid (solE_none HVZ.out (by rw [← HX4.out, List.length_map]; exact HN.out.symm))
          go_wp2_with fail
          go_ret2
          exact Or.inl ⟨by rw [HE.out]; decide, by rw [HE.out]; rfl, HWB.out⟩
        · obtain ⟨g, rfl, hg1, hg2⟩ := hg5 (by omega)
          have HE := Lib.hid (solE_ok HVZ.out (by rw [← HX4.out, List.length_map, ← HN.out]; exact h0))
          have hn0 : ((n : Int) == 0) = false := by simp; exact h0
          have HG := Lib.hid (And.intro hg1 hg2)
          have HSC := Lib.hid (HST.out bb g n vc5 xs wr HS'.out.own HN.out HLX.out (by
            have := scK_nodup l 4
            rw [show scK l 4 = scL l from rfl, ← HX4.out, List.map_map] at this
            exact this))
          clear hg1 hg2 h0 hg5
          go_wp2_with fail
          refine HSC.out.mono ?_
          rintro e w7 ⟨rfl, zz, hz⟩
          have HS7 := Lib.hid (HS'.out.sorted hz)
          have HL7 := Lib.hid (show n = zz.length by rw [HN.out]; exact hz.perm.length_eq.symm)
          have HR7 := Lib.hid (show Srt17 (scL l) (zz.map Sl.s) from ⟨by rw [← HX4.out]; exact hz.perm.map _, by rw [List.pairwise_map]; exact hz.asc⟩)
          have HB7 := Lib.hid (below_grown (v := .slice (some ⟨g, 0, none⟩) n vc5) HWB.out hz.grown (fun q e => by
            simp only [Value.ownBlock, Option.some.injEq] at e
            subst e
            have := HG.out.1; have := HBW.out; omega) HWB.out.size)
          clear hz HSC
          go_wp2_with fail
          go_ret2
          refine Or.inr ⟨HE.out, zz, g, vc5, ?_, HR7.out, ?_, HB7.out⟩
          · rw [← HL7.out]; rfl
          · rw [← HL7.out]; exact HS7.out.base_ HBW.out
  · have hne : (validR l 0 != 0) = true := bne_iff_ne.2 hv
    have HE := Lib.hid (solE_bad hv)
    have HN := Lib.hid hv
    have HB := Lib.hid B1
    clear hv B1
    generalize validR l 0 = r at *
    go_wp2_with fail
    go_ret2
    exact Or.inl ⟨by rw [HE.out]; exact HN.out, by rw [HE.out]; rfl, HB.out⟩
end Go.Proofs.YtimkmieohkefiaaGreat

namespace Go.Proofs.YtimkmieohkefiaaGreat
open Go.RowKit Go.Lib

def cellsC (s : Sc) : List Value := [.int .i64 s.wt, .int .i64 s.st, .int .i64 s.mv, .int .i64 s.pu]
/-- A scheme in memory. -/
def SCR : Rec Sc := ⟨4, by decide, cellsC, fun _ => rfl, fun x u hu => by
  simp only [cellsC, List.mem_cons, List.not_mem_nil, or_false] at hu
  rcases hu with rfl | rfl | rfl | rfl <;> rfl⟩
theorem infoSch : (Tryz.prog.info? 70).map (fun i => (i.zero, i.size, i.bytes)) = some (some (.agg #[.int .i64 0, .int .i64 0, .int .i64 0, .int .i64 0]), 4, 32) := by kernel_rfl
def SchPost (l : List It) (w : World) (e : Ending) (w' : World) : Prop :=
  (solE l ≠ 0 ∧ e = .returned (.tuple #[.slice none 0 0, .int .i64 (solE l)]) ∧ Below w.heap.size w w') ∨
  (solE l = 0 ∧ ∃ v q, e = .returned (.tuple #[v, .int .i64 0]) ∧ Srt17 (scL l) q ∧ ROwn SCR 70 w' w.heap.size v q ∧ Below w.heap.size w w')
theorem sch_len {l : List It} {q : List Sc} (h : Srt17 (scL l) q) : q.length ≤ 4 := by rw [h.len]; exact scK_len l 4
set_option maxRecDepth 100000 in
set_option maxHeartbeats 6400000 in
theorem schemes_any (l : List It) (A : Option Addr) (c L : Nat) (hL : L = l.length) (w : World) (h : IRow w A l) :
    Calls Tryz.prog 25 #[.slice A L c] w (SchPost l w) := by
  have HV := Lib.hid (psolve_any l A c L hL w h)
  clear h hL
  go_enter Tryz.func25, Tryz.ntmps25
  go_wp2_with fail
  refine HV.out.mono ?_
  rintro e w1 (⟨he, rfl, B1⟩ | ⟨he, xs, g, cap, rfl, hs, S1, B1⟩)
  · have hne : (solE l != 0) = true := bne_iff_ne.2 he
    have HE := Lib.hid he
    have HB := Lib.hid B1
    clear he B1
    have HP := Lib.hid (show ∀ v : Value, v = .slice none 0 0 → SchPost l w (.returned (.tuple #[v, .int .i64 (solE l)])) w1 from fun v hv => Or.inl ⟨HE.out, by rw [hv], HB.out⟩)
    generalize solE l = r at hne ⊢ HP
    clear HE HB HV
    go_wp2_with fail
    go_ret2
    exact HP.out _ rfl
  · have HE := Lib.hid he
    have HS := Lib.hid hs
    have HSL := Lib.hid S1
    have HB := Lib.hid B1
    have HLN := Lib.hid (show xs.length ≤ 4 by have := sch_len hs; rwa [List.length_map] at this)
    obtain ⟨ad, had⟩ : ∃ ad : Addr, ad = ⟨g, 0, none⟩ := ⟨_, rfl⟩
    rw [← had] at HSL ⊢
    obtain ⟨A', c', ea, RW⟩ := HSL.out.own.slice
    injection ea with ea
    subst ea
    have HRW := Lib.hid RW
    obtain ⟨n, hn⟩ : ∃ n, n = xs.length := ⟨_, rfl⟩
    have HN := Lib.hid hn
    rw [← hn] at HLN ⊢
    clear he hs S1 B1 had RW hn HV HSL
    have hn4 := HLN.out
    go_upto_region 6 with fail
    obtain ⟨bb, hbb⟩ : ∃ b, b = w1.heap.size := ⟨_, rfl⟩
    have HBB := Lib.hid hbb
    clear hbb
    go_loopw [6, 19] (fun v6 iv wr => ∃ k : Nat, k ≤ n ∧ iv = .int .i64 (k : Int) ∧ Hid (ROwn SCR 70 wr bb v6 ((xs.map Sl.s).take k)) ∧ Hid (Below bb w1 wr)) (fun _ iv _ => n - (intOf iv).toNat)
    case atStart => exact ⟨0, Nat.zero_le _, rfl, Lib.hid ROwn.nil, Lib.hid (by rw [HBB.out]; exact Below.refl _ _)⟩
    case round =>
      obtain ⟨k, hk, rfl, HO, HR⟩ := hrel
      have HZ := Lib.hid (show bb ≤ wr.heap.size by rw [HBB.out]; exact HR.out.size)
      by_cases hlt : k < n
      · obtain ⟨x, hx⟩ : ∃ x, xs[k]? = some x := ⟨_, List.getElem?_eq_getElem (by rw [← HN.out]; exact hlt)⟩
        obtain ⟨ad', e', CX⟩ := (HRW.out.below (by rw [← HBB.out]; exact HR.out)).at_ hx
        injection e' with e'
        subst e'
        obtain ⟨⟨x0, x1, x2, x3, xv, xh⟩, xA, xn, xc, xB, xm, xd⟩ := x
        have HXX := Lib.hid (show ((xs.map Sl.s).take (k + 1)) = (xs.map Sl.s).take k ++ [(⟨x0, x1, x2, x3, xv, xh⟩ : Sc)] by
          rw [List.take_add_one, List.getElem?_map, hx]; rfl)
        have HTL := Lib.hid (show ((xs.map Sl.s).take k).length = k by rw [List.length_take, List.length_map, ← HN.out]; omega)
        have c0 : wr.cell? (ad.add (k * 9)) = some (.int .i64 x0) := CX.first rfl
        have c1 : wr.cell? ⟨(ad.add (k * 9)).block, (ad.add (k * 9)).off + 1, none⟩ = some (.int .i64 x1) := CX.next 1 (by decide) rfl
        have c2 : wr.cell? ⟨(ad.add (k * 9)).block, (ad.add (k * 9)).off + 2, none⟩ = some (.int .i64 x2) := CX.next 2 (by decide) rfl
        have c3 : wr.cell? ⟨(ad.add (k * 9)).block, (ad.add (k * 9)).off + 3, none⟩ = some (.int .i64 x3) := CX.next 3 (by decide) rfl
        have c4 : wr.cell? ⟨(ad.add (k * 9)).block, (ad.add (k * 9)).off + 4, none⟩ = some (.slice A L c) := CX.next 4 (by decide) rfl
        have c5 : wr.cell? ⟨(ad.add (k * 9)).block, (ad.add (k * 9)).off + 5, none⟩ = some (.int .i64 x0) := CX.next 5 (by decide) rfl
        have c6 : wr.cell? ⟨(ad.add (k * 9)).block, (ad.add (k * 9)).off + 6, none⟩ = some (.int .i64 x1) := CX.next 6 (by decide) rfl
        have c7 : wr.cell? ⟨(ad.add (k * 9)).block, (ad.add (k * 9)).off + 7, none⟩ = some (.slice xA xn xc) := CX.next 7 (by decide) rfl
        have c8 : wr.cell? ⟨(ad.add (k * 9)).block, (ad.add (k * 9)).off + 8, none⟩ = some (.slice xB xm xd) := CX.next 8 (by decide) rfl
        have HLB := Lib.hid CX.lt
        obtain ⟨vA5, vc5, hv5, -⟩ := HO.out.slice
        rw [HTL.out] at hv5
        subst hv5
        have B4 := Lib.hid (box1W wr (.cells #[.int .i64 x0, .int .i64 x1, .int .i64 x2, .int .i64 x3, .slice A L c, .int .i64 x0, .int .i64 x1, .slice xA xn xc, .slice xB xm xd] 97))
        have O4 := Lib.hid (HO.out.below B4.out)
        have Y4 := Lib.hid (show AB 97 (wr.alloc (.cells #[.int .i64 x0, .int .i64 x1, .int .i64 x2, .int .i64 x3, .slice A L c, .int .i64 x0, .int .i64 x1, .slice xA xn xc, .slice xB xm xd] 97)) wr.heap.size [.int .i64 x0, .int .i64 x1, .int .i64 x2, .int .i64 x3, .slice A L c, .int .i64 x0, .int .i64 x1, .slice xA xn xc, .slice xB xm xd] from AB.new wr [.int .i64 x0, .int .i64 x1, .int .i64 x2, .int .i64 x3, .slice A L c, .int .i64 x0, .int .i64 x1, .slice xA xn xc, .slice xB xm xd] 97 wr.heap.size rfl)
        have R4 := Lib.hid (HR.out.trans (B4.out.mono HZ.out))
        have HZ4 := Lib.hid (Nat.le_trans HZ.out B4.out.size)
        have HLT := Lib.hid hlt
        clear CX hx HO HR
        go_upto_region 8 with fail
        obtain ⟨y, hy⟩ : ∃ y, y = wr.heap.size := ⟨_, rfl⟩
        rw [← hy] at Y4 ⊢
        generalize wr.alloc (.cells #[.int .i64 x0, .int .i64 x1, .int .i64 x2, .int .i64 x3, .slice A L c, .int .i64 x0, .int .i64 x1, .slice xA xn xc, .slice xB xm xd] 97) = w4 at *
        clear hy c0 c1 c2 c3 c4 c5 c6 c7 c8
        have y0 := Y4.out.cell 0 (u := .int .i64 x0) rfl
        have y1 := Y4.out.cell 1 (u := .int .i64 x1) rfl
        have y2 := Y4.out.cell 2 (u := .int .i64 x2) rfl
        have y3 := Y4.out.cell 3 (u := .int .i64 x3) rfl
        have y4 := Y4.out.cell 4 (u := .slice A L c) rfl
        have y5 := Y4.out.cell 5 (u := .int .i64 x0) rfl
        have y6 := Y4.out.cell 6 (u := .int .i64 x1) rfl
        have y7 := Y4.out.cell 7 (u := .slice xA xn xc) rfl
        have y8 := Y4.out.cell 8 (u := .slice xB xm xd) rfl
        go_wp2_with (first | (at_builtin; refine wpList_appR SCR Tryz.underlying61 infoSch rfl (by decide) _ rfl (.tmp 23) (.tmp 26) rfl bb _ ((xs.map Sl.s).take k) rfl (O4.out.alloc _) [⟨x0, x1, x2, x3, xv, xh⟩] w4 rfl _ rfl 1 1 rfl (by decide) rfl (by rw [HTL.out]; omega) (le_allocG HZ4.out) ?_; intro v6 w6 A6))
        have HO6 := Lib.hid (show ROwn SCR 70 w6 bb v6 ((xs.map Sl.s).take (k + 1)) by rw [HXX.out]; exact A6.1)
        have HR6 := Lib.hid (below_grown (R4.out.trans ((box1W w4 (.cells #[.int .i64 x0, .int .i64 x1, .int .i64 x2, .int .i64 x3] 70)).mono HZ4.out)) A6.2.1 (fun g hg => (O4.out.block hg).1) (le_allocG HZ4.out))
        clear A6
        go_roundw
        case rel => exact ⟨k + 1, by have := HLT.out; omega, by go_num, HO6, HR6⟩
        case measure => simp [intOf]; have := HLT.out; omega
      · have HKN := Lib.hid (show (xs.map Sl.s).take k = xs.map Sl.s by rw [List.take_of_length_le]; rw [List.length_map, ← HN.out]; omega)
        have HB1 := Lib.hid (HB.out.trans (HR.out.mono (by rw [HBB.out]; exact HB.out.size)))
        go_wp2_with fail
        go_ret2
        refine Or.inr ⟨HE.out, _, xs.map Sl.s, rfl, HS.out, ?_, HB1.out⟩
        have := HO.out
        rw [HKN.out] at this
        exact this.base (by rw [HBB.out]; exact HB.out.size)
end Go.Proofs.YtimkmieohkefiaaGreat

namespace Go.Proofs.YtimkmieohkefiaaGreat
open Go.RowKit

abbrev ld (a : List Int) (x : Nat) : Int := a.getD x 0
def Rk (a : List Int) (x y : Nat) : Prop := ld a y < ld a x ∨ (ld a x = ld a y ∧ x < y)
theorem Rk.trans {a : List Int} {x y z : Nat} (h1 : Rk a x y) (h2 : Rk a y z) : Rk a x z := by
  unfold Rk at *; omega
theorem Rk.irr {a : List Int} {x : Nat} : ¬ Rk a x x := by unfold Rk; omega
def posL (a : List Int) : List Nat := (List.range a.length).filter fun x => decide (0 < ld a x)
theorem mem_posL {a : List Int} {x : Nat} : x ∈ posL a ↔ x < a.length ∧ 0 < ld a x := by unfold posL; simp
theorem posL_nodup (a : List Int) : (posL a).Nodup := List.Pairwise.filter _ List.nodup_range
structure IsOrd (a : List Int) (os : List Nat) : Prop where
  perm : os.Perm (posL a)
  asc : os.Pairwise (Rk a)
theorem IsOrd.uniq {a : List Int} {os os' : List Nat} (h : IsOrd a os) (h' : IsOrd a os') : os = os' :=
  List.Perm.eq_of_pairwise (le := Rk a) (fun x y _ _ h1 h2 => absurd (h1.trans h2) Rk.irr) h.asc h'.asc (h.perm.trans h'.perm.symm)
theorem IsOrd.mem {a : List Int} {os : List Nat} (h : IsOrd a os) {x : Nat} : x ∈ os ↔ x < a.length ∧ 0 < ld a x := h.perm.mem_iff.trans mem_posL
theorem IsOrd.nodup {a : List Int} {os : List Nat} (h : IsOrd a os) : os.Nodup := h.perm.nodup_iff.2 (posL_nodup a)
theorem IsOrd.at_ {a : List Int} {os : List Nat} (h : IsOrd a os) {k : Nat} (hk : k < os.length) : os.getD k 0 < a.length ∧ 0 < ld a (os.getD k 0) := by
  rw [List.getD_eq_getElem?_getD, List.getElem?_eq_getElem hk]
  exact h.mem.1 (List.getElem_mem hk)
theorem getD_ge {l : List Nat} {k : Nat} (h : k < l.length) : l.getD k 0 = l[k] := by simp [List.getD_eq_getElem?_getD, h]
theorem getD_inj {l : List Nat} (h : l.Nodup) {i j : Nat} (hi : i < l.length) (hj : j < l.length) (e : l.getD i 0 = l.getD j 0) : i = j := by
  rw [List.getD_eq_getElem?_getD, List.getElem?_eq_getElem hi, List.getD_eq_getElem?_getD, List.getElem?_eq_getElem hj] at e
  exact (List.getElem_inj h).1 e
theorem IsOrd.le {a : List Int} {os : List Nat} (h : IsOrd a os) {i j : Nat} (hij : i < j) (hj : j < os.length) : ld a (os.getD j 0) ≤ ld a (os.getD i 0) := by
  have := List.pairwise_iff_getElem.1 h.asc i j (by omega) hj hij
  rw [getD_ge hj, getD_ge (by omega : i < os.length)]
  unfold Rk at this
  omega
theorem IsOrd.before {a : List Int} {os : List Nat} (h : IsOrd a os) {i j : Nat} (hij : i < j) (hj : j < os.length) : Rk a (os.getD i 0) (os.getD j 0) := by
  have := List.pairwise_iff_getElem.1 h.asc i j (by omega) hj hij
  rw [getD_ge hj, getD_ge (by omega : i < os.length)]
  exact this
theorem IsOrd.len {a : List Int} {os : List Nat} (h : IsOrd a os) : os.length ≤ a.length := by
  rw [h.perm.length_eq]
  unfold posL
  exact Nat.le_trans (List.length_filter_le _ _) (by simp)
theorem exists_ord (a : List Int) : ∃ os, IsOrd a os := by
  have hs : (posL a).Pairwise (Cr (fun x y => decide (ld a y < ld a x)) (Rk a)) := by
    unfold posL
    refine List.Pairwise.filter _ (List.Pairwise.imp (fun {x y} h => ?_) (List.pairwise_lt_range (n := a.length)))
    unfold Cr Rk
    exact ⟨fun g => by have := of_decide_eq_true g; omega, fun g => by have := of_decide_eq_false g; omega⟩
  obtain ⟨z, z1, z2, _⟩ := insertion_list (R := Rk a) (fun x y z (h1 : Rk a x y) (h2 : Rk a y z) => h1.trans h2) [] (posL a) [] hs
  exact ⟨z, z1, z2⟩

/-- How many numbers of b are at least h. -/
def cF (b : List Int) (h : Int) : Nat := (List.range b.length).countP fun t => decide (h ≤ ld b t)
theorem countP_upd {p q : Nat → Bool} {y m : Nat} (hy : y < m) (h0 : p y = false) (h1 : q y = true) (h : ∀ t, t ≠ y → q t = p t) : (List.range m).countP q = (List.range m).countP p + 1 := by
  induction m with
  | zero => omega
  | succ m ih =>
    rw [List.range_succ, List.countP_append, List.countP_append]
    by_cases e : y = m
    · subst e
      have : (List.range y).countP q = (List.range y).countP p := List.countP_congr fun t ht => by rw [h t (by have := List.mem_range.1 ht; omega)]
      rw [this]
      simp [h0, h1]
    · rw [ih (by omega)]
      have : q m = p m := h m (by omega)
      simp [List.countP_cons, this]; omega
theorem countP_t {p : Nat → Bool} {n : Nat} (h : p n = true) : [n].countP p = 1 := by simp [h]
theorem countP_f {p : Nat → Bool} {n : Nat} (h : p n = false) : [n].countP p = 0 := by simp [h]
theorem countP_same {p q : Nat → Bool} {m : Nat} (h : ∀ t, t < m → q t = p t) : (List.range m).countP q = (List.range m).countP p :=
  List.countP_congr fun t ht => by rw [h t (List.mem_range.1 ht)]

def okF (lo : Int) (l : List Int) : Bool := l.all fun n => decide (lo ≤ n ∧ n ≤ 38400)
def valR (a b : List Int) : Int := if 32 < a.length ∨ 32 < b.length then 3 else if okF 0 a = true ∧ okF 1 b = true then 0 else 2
structure Vd (a b : List Int) : Prop where
  la : a.length ≤ 32
  lb : b.length ≤ 32
  oa : ∀ n ∈ a, 0 ≤ n ∧ n ≤ 38400
  ob : ∀ n ∈ b, 1 ≤ n ∧ n ≤ 38400
theorem okF_mem {lo : Int} {l : List Int} (h : okF lo l = true) : ∀ n ∈ l, lo ≤ n ∧ n ≤ 38400 := fun n hn => of_decide_eq_true (List.all_eq_true.1 h n hn)
theorem okF_of {lo : Int} {l : List Int} (h : ∀ n ∈ l, lo ≤ n ∧ n ≤ 38400) : okF lo l = true := List.all_eq_true.2 fun n hn => decide_eq_true (h n hn)
theorem vd_of {a b : List Int} (h : valR a b = 0) : Vd a b := by
  unfold valR at h
  split at h
  · cases h
  · split at h
    · rename_i h1 h2
      exact ⟨by omega, by omega, okF_mem h2.1, okF_mem h2.2⟩
    · cases h
theorem Vd.val {a b : List Int} (h : Vd a b) : valR a b = 0 := by
  unfold valR
  rw [if_neg (by have := h.la; have := h.lb; omega), if_pos ⟨okF_of h.oa, okF_of h.ob⟩]
theorem ld_mem {l : List Int} {k : Nat} (h : k < l.length) : ld l k ∈ l := by
  unfold ld; rw [List.getD_eq_getElem?_getD, List.getElem?_eq_getElem h]; exact List.getElem_mem _
/-- The first of the shortest tracks that are long enough and free, among the first k. -/
def bestZ (b : List Int) (tk : List Bool) (x : Int) : Nat → Int
  | 0 => -1
  | k + 1 => if ld b k < x ∨ tk.getD k false = true then bestZ b tk x k else if bestZ b tk x k = -1 ∨ ld b k < ld b (bestZ b tk x k).toNat then (k : Int) else bestZ b tk x k
theorem bestZ_spec (b : List Int) (tk : List Bool) (x : Int) : ∀ k, (bestZ b tk x k = -1 ∧ ∀ t, t < k → ld b t < x ∨ tk.getD t false = true) ∨ ∃ y : Nat, bestZ b tk x k = (y : Int) ∧ y < k ∧ x ≤ ld b y ∧ tk.getD y false = false
  | 0 => Or.inl ⟨rfl, fun t h => absurd h (Nat.not_lt_zero _)⟩
  | k + 1 => by
    have ih := bestZ_spec b tk x k
    unfold bestZ
    by_cases h : ld b k < x ∨ tk.getD k false = true
    · rw [if_pos h]
      rcases ih with ⟨h1, h2⟩ | ⟨y, h1, h2, h3, h4⟩
      · refine Or.inl ⟨h1, fun t ht => ?_⟩
        rcases Nat.lt_or_ge t k with g | g
        · exact h2 t g
        · have : t = k := by omega
          subst this; exact h
      · exact Or.inr ⟨y, h1, by omega, h3, h4⟩
    · rw [if_neg h]
      have g1 : x ≤ ld b k := Decidable.byContradiction fun g => h (Or.inl (by omega))
      have g2 : tk.getD k false = false := by
        cases hq : tk.getD k false with
        | false => rfl
        | true => exact absurd (Or.inr hq) h
      split
      · exact Or.inr ⟨k, rfl, by omega, g1, g2⟩
      · rename_i h5
        rcases ih with ⟨h1, h2⟩ | ⟨y, h1, h2, h3, h4⟩
        · exact absurd (Or.inl h1) h5
        · exact Or.inr ⟨y, h1, by omega, h3, h4⟩
/-- The marks and the assignment behind n loads. -/
def stM (a b : List Int) (os : List Nat) : Nat → List Bool × List Int
  | 0 => (List.replicate b.length false, List.replicate a.length (-1))
  | n + 1 => ((stM a b os n).1.set (bestZ b (stM a b os n).1 (ld a (os.getD n 0)) b.length).toNat true, (stM a b os n).2.set (os.getD n 0) (bestZ b (stM a b os n).1 (ld a (os.getD n 0)) b.length))
/-- The track of load n. -/
def yM (a b : List Int) (os : List Nat) (n : Nat) : Int := bestZ b (stM a b os n).1 (ld a (os.getD n 0)) b.length
theorem stM_succ (a b : List Int) (os : List Nat) (n : Nat) : stM a b os (n + 1) = ((stM a b os n).1.set (yM a b os n).toNat true, (stM a b os n).2.set (os.getD n 0) (yM a b os n)) := rfl
theorem stM_len (a b : List Int) (os : List Nat) : ∀ n, (stM a b os n).1.length = b.length ∧ (stM a b os n).2.length = a.length
  | 0 => by simp [stM]
  | n + 1 => by rw [stM_succ]; simp [stM_len a b os n]
def OkTo (a b : List Int) (os : List Nat) (n : Nat) : Prop := ∀ k, k < n → yM a b os k ≠ -1
theorem OkTo.succ {a b : List Int} {os : List Nat} {n : Nat} (h : OkTo a b os n) (g : yM a b os n ≠ -1) : OkTo a b os (n + 1) := fun k hk => by
  rcases Nat.lt_or_ge k n with e | e
  · exact h k e
  · have : k = n := by omega
    subst this; exact g
theorem getD_setB {l : List Bool} {i t : Nat} (hi : i < l.length) : (l.set i true).getD t false = (decide (t = i) || l.getD t false) := by
  rw [List.getD_eq_getElem?_getD, List.getD_eq_getElem?_getD, List.getElem?_set]
  by_cases e : i = t
  · subst e; simp [hi]
  · simp [e, Ne.symm e]
theorem getD_setI {l : List Int} {i t : Nat} {v z : Int} (hi : i < l.length) : (l.set i v).getD t z = if t = i then v else l.getD t z := by
  rw [List.getD_eq_getElem?_getD, List.getD_eq_getElem?_getD, List.getElem?_set]
  by_cases e : i = t
  · subst e; simp [hi]
  · simp [e, Ne.symm e]
/-- What holds behind n loads that all found a track. -/
structure InvM (a b : List Int) (os : List Nat) (n : Nat) : Prop where
  dom : ∀ t : Nat, (stM a b os n).1.getD t false = true ↔ ∃ k, k < n ∧ yM a b os k = (t : Int)
  fit : ∀ k, k < n → ∃ y : Nat, yM a b os k = (y : Int) ∧ y < b.length ∧ ld a (os.getD k 0) ≤ ld b y
  inj : ∀ i j, i < j → j < n → yM a b os i ≠ yM a b os j
  tot : (List.range b.length).countP (fun t => (stM a b os n).1.getD t false) = n
  cnt : ∀ h, (List.range n).countP (fun k => decide (h ≤ ld a (os.getD k 0))) ≤ (List.range b.length).countP (fun t => (stM a b os n).1.getD t false && decide (h ≤ ld b t))
  val : ∀ k, k < n → (stM a b os n).2.getD (os.getD k 0) (-1) = yM a b os k
  neg : ∀ x, (∀ k, k < n → os.getD k 0 ≠ x) → (stM a b os n).2.getD x (-1) = -1
theorem invM {a b : List Int} {os : List Nat} (O : IsOrd a os) : ∀ n, n ≤ os.length → OkTo a b os n → InvM a b os n
  | 0, _, _ => by
    have e : ∀ t, (stM a b os 0).1.getD t false = false := fun t => by
      unfold stM
      rw [List.getD_eq_getElem?_getD, List.getElem?_replicate]
      split <;> rfl
    refine ⟨fun t => ⟨fun h => ?_, fun ⟨k, h, _⟩ => absurd h (Nat.not_lt_zero _)⟩, fun k h => absurd h (Nat.not_lt_zero _), fun i j h1 h2 => absurd h2 (Nat.not_lt_zero _), ?_, fun h => Nat.zero_le _, fun k h => absurd h (Nat.not_lt_zero _), fun x _ => ?_⟩
    · rw [e t] at h; cases h
    · rw [List.countP_eq_zero]
      intro t _
      rw [e t]; exact Bool.false_ne_true
    · unfold stM
      rw [List.getD_eq_getElem?_getD, List.getElem?_replicate]
      split <;> rfl
  | n + 1, hn, ok => by
    have I := invM O n (by omega) (fun k hk => ok k (by omega))
    have hlen := stM_len a b os n
    have hne := ok n (by omega)
    obtain ⟨y, hy, hyl, hfit, hfree⟩ : ∃ y : Nat, yM a b os n = (y : Int) ∧ y < b.length ∧ ld a (os.getD n 0) ≤ ld b y ∧ (stM a b os n).1.getD y false = false := by
      rcases bestZ_spec b (stM a b os n).1 (ld a (os.getD n 0)) b.length with ⟨h, _⟩ | h
      · exact absurd h hne
      · exact h
    have es := stM_succ a b os n
    rw [hy, Int.toNat_natCast] at es
    have ea := O.at_ (show n < os.length by omega)
    have e1 : ∀ t, (stM a b os (n + 1)).1.getD t false = (decide (t = y) || (stM a b os n).1.getD t false) := fun t => by rw [es]; exact getD_setB (by rw [hlen.1]; exact hyl)
    have e2 : ∀ x, (stM a b os (n + 1)).2.getD x (-1) = if x = os.getD n 0 then (y : Int) else (stM a b os n).2.getD x (-1) := fun x => by rw [es]; exact getD_setI (by rw [hlen.2]; exact ea.1)
    refine ⟨fun t => ?_, fun k hk => ?_, fun i j hij hj => ?_, ?_, fun h => ?_, fun k hk => ?_, fun x hx => ?_⟩
    · rw [e1]
      constructor
      · intro h
        rw [Bool.or_eq_true] at h
        rcases h with h | h
        · have := of_decide_eq_true h
          subst this
          exact ⟨n, by omega, hy⟩
        · obtain ⟨k, k1, k2⟩ := (I.dom t).1 h
          exact ⟨k, by omega, k2⟩
      · rintro ⟨k, k1, k2⟩
        rw [Bool.or_eq_true]
        rcases Nat.lt_or_ge k n with g | g
        · exact Or.inr ((I.dom t).2 ⟨k, g, k2⟩)
        · have : k = n := by omega
          subst this
          rw [hy] at k2
          exact Or.inl (decide_eq_true (by omega))
    · rcases Nat.lt_or_ge k n with g | g
      · exact I.fit k g
      · have : k = n := by omega
        subst this
        exact ⟨y, hy, hyl, hfit⟩
    · rcases Nat.lt_or_ge j n with g | g
      · exact I.inj i j hij g
      · have : j = n := by omega
        subst this
        intro e
        rw [hy] at e
        have := (I.dom y).2 ⟨i, hij, e⟩
        rw [hfree] at this
        cases this
    · rw [countP_upd (p := fun t => (stM a b os n).1.getD t false) hyl hfree (by rw [e1]; simp) (fun t ht => by rw [e1]; simp [ht]), I.tot]
    · rw [List.range_succ, List.countP_append]
      by_cases g : h ≤ ld a (os.getD n 0)
      · have h1 : (List.range b.length).countP (fun t => (stM a b os (n + 1)).1.getD t false && decide (h ≤ ld b t)) = (List.range b.length).countP (fun t => (stM a b os n).1.getD t false && decide (h ≤ ld b t)) + 1 :=
          countP_upd hyl (by rw [hfree]; rfl) (by rw [e1, decide_eq_true rfl, Bool.true_or, Bool.true_and]; exact decide_eq_true (by omega)) (fun t ht => by rw [e1, decide_eq_false ht, Bool.false_or])
        have h2 := I.cnt h
        rw [h1, countP_t (decide_eq_true g)]
        omega
      · have h1 : (List.range b.length).countP (fun t => (stM a b os n).1.getD t false && decide (h ≤ ld b t)) ≤ (List.range b.length).countP (fun t => (stM a b os (n + 1)).1.getD t false && decide (h ≤ ld b t)) :=
          List.countP_mono_left fun t _ ht => by rw [e1]; rw [Bool.and_eq_true] at ht ⊢; exact ⟨by rw [ht.1, Bool.or_true], ht.2⟩
        have h2 := I.cnt h
        rw [countP_f (decide_eq_false g)]
        omega
    · rw [e2]
      rcases Nat.lt_or_ge k n with g | g
      · rw [if_neg (fun e => by have := getD_inj O.nodup (by omega) (by omega) e; omega)]
        exact I.val k g
      · have : k = n := by omega
        subst this
        rw [if_pos rfl, hy]
    · rw [e2, if_neg (Ne.symm (hx n (by omega)))]
      exact I.neg x (fun k hk => hx k (by omega))
/-- An assignment. -/
structure Asg (a b l : List Int) : Prop where
  len : l.length = a.length
  zero : ∀ i, i < a.length → ld a i = 0 → l.getD i (-1) = -1
  fit : ∀ i, i < a.length → 0 < ld a i → ∃ y : Nat, l.getD i (-1) = (y : Int) ∧ y < b.length ∧ ld a i ≤ ld b y
  inj : ∀ i j, i < j → j < a.length → 0 < ld a i → 0 < ld a j → l.getD i (-1) ≠ l.getD j (-1)
theorem IsOrd.find {a : List Int} {os : List Nat} (O : IsOrd a os) {x : Nat} (h : x < a.length) (h0 : 0 < ld a x) : ∃ k, k < os.length ∧ os.getD k 0 = x := by
  obtain ⟨k, hk, e⟩ := List.getElem_of_mem (O.mem.2 ⟨h, h0⟩)
  exact ⟨k, hk, by rw [List.getD_eq_getElem?_getD, List.getElem?_eq_getElem hk]; exact e⟩
theorem asg_of {a b : List Int} {os : List Nat} (O : IsOrd a os) (ok : OkTo a b os os.length) : Asg a b (stM a b os os.length).2 := by
  have I := invM O os.length (Nat.le_refl _) ok
  refine ⟨(stM_len a b os _).2, fun i hi h0 => I.neg i (fun k hk e => ?_), fun i hi h0 => ?_, fun i j hij hj hi0 hj0 => ?_⟩
  · have := (O.at_ hk).2
    rw [e] at this
    omega
  · obtain ⟨k, hk, e⟩ := O.find hi h0
    obtain ⟨y, h1, h2, h3⟩ := I.fit k hk
    rw [e] at h3
    exact ⟨y, by rw [← e, I.val k hk]; exact h1, h2, h3⟩
  · obtain ⟨k, hk, e⟩ := O.find (by omega) hi0
    obtain ⟨k', hk', e'⟩ := O.find hj hj0
    rw [← e, ← e', I.val k hk, I.val k' hk']
    have hne : k ≠ k' := fun h => by rw [h, e'] at e; omega
    rcases Nat.lt_or_gt_of_ne hne with g | g
    · exact I.inj k k' g hk'
    · exact Ne.symm (I.inj k' k g hk)
/-- As many tracks as loads, at every length. -/
def Hall (a b : List Int) : Prop := ∀ h, 0 < h → cF a h ≤ cF b h
theorem cF_ord {a : List Int} {os : List Nat} (O : IsOrd a os) {h : Int} (hh : 0 < h) : cF a h = (List.range os.length).countP (fun k => decide (h ≤ ld a (os.getD k 0))) := by
  have e1 : cF a h = (posL a).countP (fun x => decide (h ≤ ld a x)) := by
    unfold cF posL
    rw [List.countP_filter]
    exact countP_same fun t _ => by
      by_cases g : h ≤ ld a t
      · rw [decide_eq_true g, decide_eq_true (by omega)]; rfl
      · rw [decide_eq_false g]; rfl
  rw [e1, ← O.perm.countP_eq]
  have e2 : os = (List.range os.length).map (fun k => os.getD k 0) := by
    refine List.ext_getElem? fun i => ?_
    by_cases g : i < os.length
    · simp [g]
    · simp [g]
  conv => lhs; rw [e2]
  rw [List.countP_map]
  rfl
theorem hall_of {a b : List Int} {os : List Nat} (O : IsOrd a os) (ok : OkTo a b os os.length) : Hall a b := fun h hh => by
  have I := invM O os.length (Nat.le_refl _) ok
  rw [cF_ord O hh]
  refine Nat.le_trans (I.cnt h) (List.countP_mono_left fun t _ ht => ?_)
  rw [Bool.and_eq_true] at ht
  exact ht.2
/-- A load that finds no track. -/
theorem stuck_of {a b : List Int} {os : List Nat} (O : IsOrd a os) {n : Nat} (hn : n < os.length) (ok : OkTo a b os n) (bad : yM a b os n = -1) : cF b (ld a (os.getD n 0)) = n ∧ n < cF a (ld a (os.getD n 0)) := by
  have I := invM O n (by omega) ok
  have hs : ∀ t, t < b.length → ld b t < ld a (os.getD n 0) ∨ (stM a b os n).1.getD t false = true := by
    rcases bestZ_spec b (stM a b os n).1 (ld a (os.getD n 0)) b.length with ⟨_, h⟩ | ⟨y, h, _⟩
    · exact h
    · have : yM a b os n = (y : Int) := h
      rw [bad] at this; omega
  refine ⟨?_, ?_⟩
  · refine Eq.trans ?_ I.tot
    unfold cF
    refine countP_same fun t ht => ?_
    show decide (ld a (os.getD n 0) ≤ ld b t) = (stM a b os n).1.getD t false
    cases h : (stM a b os n).1.getD t false with
    | true =>
      obtain ⟨k, k1, k2⟩ := (I.dom t).1 h
      obtain ⟨y, y1, y2, y3⟩ := I.fit k k1
      rw [k2] at y1
      have : t = y := by omega
      subst this
      have := O.le k1 hn
      exact decide_eq_true (by omega)
    | false =>
      rcases hs t ht with g | g
      · exact decide_eq_false (by omega)
      · rw [h] at g; cases g
  · rw [cF_ord O (O.at_ hn).2]
    have h1 : (List.range (n + 1)).countP (fun k => decide (ld a (os.getD n 0) ≤ ld a (os.getD k 0))) = n + 1 := by
      have := List.countP_eq_length (p := fun k => decide (ld a (os.getD n 0) ≤ ld a (os.getD k 0))) (l := List.range (n + 1))
      rw [List.length_range] at this
      refine this.2 fun k hk => decide_eq_true ?_
      have hk := List.mem_range.1 hk
      rcases Nat.lt_or_ge k n with g | g
      · exact O.le g hn
      · have : k = n := by omega
        subst this; exact Int.le_refl _
    have h2 : (List.range (n + 1)).countP (fun k => decide (ld a (os.getD n 0) ≤ ld a (os.getD k 0))) ≤ (List.range os.length).countP (fun k => decide (ld a (os.getD n 0) ≤ ld a (os.getD k 0))) := by
      refine List.Sublist.countP_le ?_
      obtain ⟨m, hm⟩ : ∃ m, os.length = (n + 1) + m := ⟨os.length - (n + 1), by omega⟩
      have e : List.range (n + 1 + m) = List.range (n + 1) ++ (List.range m).map (fun x => n + 1 + x) := List.range_add
      rw [hm, e]
      exact List.sublist_append_left _ _
    omega
end Go.Proofs.YtimkmieohkefiaaGreat

namespace Go.Proofs.YtimkmieohkefiaaGreat
open Go.RowKit Go.Lib

/-- Block b is the set bs. -/
def ABSet (w : World) (b : Nat) (bs : List Bool) : Prop := w.heap[b]? = some (.cells (bs.map Value.bool).toArray 4 (0, 0))
theorem ABSet.lt {w : World} {b : Nat} {bs : List Bool} (h : ABSet w b bs) : b < w.heap.size := (Array.getElem?_eq_some_iff.1 h).1
theorem ABSet.below {w w' : World} {b B : Nat} {bs : List Bool} (h : ABSet w b bs) (k : Below B w w') (hb : b < B) : ABSet w' b bs := (k.block b hb).trans h
theorem ABSet.drewN {w : World} {b : Nat} {bs : List Bool} (h : ABSet w b bs) (n : Nat) : ABSet (w.drewN n) b bs := h
theorem ABSet.cell {w : World} {b : Nat} {bs : List Bool} (h : ABSet w b bs) (j : Nat) (hj : j < bs.length) : w.cell? ⟨b, j, none⟩ = some (.bool (bs.getD j false)) := by
  unfold World.cell?
  rw [h]
  simp [hj]
theorem ABSet.frozen {w : World} {b : Nat} {bs : List Bool} (h : ABSet w b bs) (j : Nat) : w.frozen? ⟨b, j, none⟩ = false := frozen_of_row w b j _ 4 h
theorem ABSet.set {w : World} {b : Nat} {bs : List Bool} (h : ABSet w b bs) (j : Nat) (x : Bool) : ABSet (w.setCell ⟨b, j, none⟩ (.bool x)) b (bs.set j x) := by
  have := heap_setCell_same w b j _ 4 (.bool x) h
  unfold ABSet
  rw [this]
  simp
theorem ABSet.new (w : World) (bs : List Bool) (b : Nat) (hb : b = w.heap.size) : ABSet (w.alloc (.cells (bs.map Value.bool).toArray 4)) b bs := by subst hb; exact heap_alloc_new w _
theorem ainfoBool : (Tryz.prog.info? 4).map (fun i => (i.zero, i.size, i.bytes)) = some (some (.bool false), 1, 1) := by kernel_rfl
theorem amake_bools (w : World) (X : Nat) (hX : X ≤ 1000) : (Instr.makeSlice 124 (.int .i64 (X : Int)) (.int .i64 (X : Int))).run Tryz.prog w = .ok (.slice (some ⟨w.heap.size, 0, none⟩) X X) (w.alloc (.cells ((List.replicate X false).map Value.bool).toArray 4)) := by
  obtain ⟨i0, hi, hz0, hz1, hz2⟩ := info_parts ainfoBool
  have h := run_make (P := Tryz.prog) w 124 4 i0 (.bool false) Tryz.underlying124 hi hz0 .i64 .i64 (X : Int) (X : Int) (by omega) (Int.le_refl _) (by rw [hz2]; omega) (by omega)
  rw [hz1, Int.toNat_natCast] at h
  have e : madeCells (Value.bool false).cells (X * 1) = ((List.replicate X false).map Value.bool).toArray := by
    rw [Nat.mul_one, List.map_replicate]
    apply Array.ext'
    refine List.ext_getElem? fun j => ?_
    unfold madeCells
    by_cases h : j < X
    · simp [h, Nat.mod_one, Value.cells]
    · simp [h]
  rw [e] at h
  exact h
theorem make_intsA (w : World) (X : Nat) (hX : X ≤ 1000) : (Instr.makeSlice 22 (.int .i64 (X : Int)) (.int .i64 (X : Int))).run Tryz.prog w = .ok (.slice (some ⟨w.heap.size, 0, none⟩) X X) (w.alloc (.cells ((List.replicate X 0).map (Value.int .i64)).toArray 3)) := by
  obtain ⟨i0, hi, hz0, hz1, hz2⟩ := info_parts infoIntW
  have h := run_make (P := Tryz.prog) w 22 3 i0 (.int .i64 0) Tryz.underlying22 hi hz0 .i64 .i64 (X : Int) (X : Int) (by omega) (Int.le_refl _) (by rw [hz2]; omega) (by omega)
  rw [hz1, Int.toNat_natCast] at h
  have e : madeCells (Value.int .i64 0).cells (X * 1) = ((List.replicate X 0).map (Value.int .i64)).toArray := by
    rw [Nat.mul_one, List.map_replicate]
    apply Array.ext'
    refine List.ext_getElem? fun j => ?_
    unfold madeCells
    by_cases h : j < X
    · simp [h, Nat.mod_one, Value.cells]
    · simp [h]
  rw [e] at h
  exact h
end Go.Proofs.YtimkmieohkefiaaGreat

namespace Go.Proofs.YtimkmieohkefiaaGreat
open Go.RowKit Go.Lib

theorem okF_snoc (lo : Int) (l : List Int) (k : Nat) (h : k < l.length) : okF lo (l.take (k + 1)) = (okF lo (l.take k) && decide (lo ≤ ld l k ∧ ld l k ≤ 38400)) := by
  unfold okF
  rw [List.take_succ_eq_append_getElem h, List.all_append]
  have : ld l k = l[k] := by unfold ld; simp [List.getD_eq_getElem?_getD, h]
  rw [this]; simp
theorem okF_part {lo : Int} {l : List Int} {k : Nat} (h : okF lo (l.take k) = false) : okF lo l = false := by
  have : okF lo l = (okF lo (l.take k) && okF lo (l.drop k)) := by unfold okF; rw [← List.all_append, List.take_append_drop]
  rw [this, h]; rfl
set_option maxHeartbeats 1600000 in
theorem isFrom_any (lo : Int) (l : List Int) (A : Option Addr) (c : Nat) (w : World) (h : Row .i64 w w.heap.size A l) (hl : l.length ≤ maxLen) :
    Calls Tryz.prog 115 #[.int .i64 lo, .slice A l.length c] w fun e w' => e = .returned (.bool (okF lo l)) ∧ w = w' := by
  unfold maxLen at hl
  have H := Lib.hid h
  obtain ⟨L, hL⟩ : ∃ n, n = l.length := ⟨_, rfl⟩
  have HL := Lib.hid hL
  rw [← hL] at hl ⊢
  clear h hL
  go_enter Tryz.func115, Tryz.ntmps115
  go_wp2_with fail
  go_loop [9] (fun i => ∃ k : Nat, k ≤ L ∧ i = .int .i64 k ∧ Hid (okF lo (l.take k) = true)) (fun i => L - (intOf i).toNat)
  case atStart => exact ⟨0, by omega, rfl, Lib.hid rfl⟩
  case round =>
    obtain ⟨k, hk, rfl, G⟩ := hrel
    by_cases hlt : k < L
    · obtain ⟨ad, rfl, -, c1⟩ := H.out k (by rw [← HL.out]; exact hlt)
      have hs := okF_snoc lo l k (by rw [← HL.out]; exact hlt)
      obtain ⟨x, hx⟩ : ∃ x, x = l.getD k 0 := ⟨_, rfl⟩
      unfold ld at hs
      rw [← hx] at c1 hs
      have HS := Lib.hid hs
      clear hx hs
      by_cases t1 : x < lo
      · have HF := Lib.hid (show okF lo l = false from okF_part (k := k + 1) (by rw [HS.out, decide_eq_false (by omega), Bool.and_false]))
        go_wp2_with fail
        go_ret
        exact ⟨ret_bool HF.out.symm, rfl⟩
      by_cases t2 : 38400 < x
      · have HF := Lib.hid (show okF lo l = false from okF_part (k := k + 1) (by rw [HS.out, decide_eq_false (by omega), Bool.and_false]))
        go_wp2_with fail
        go_ret
        exact ⟨ret_bool HF.out.symm, rfl⟩
      · have HF := Lib.hid (show okF lo (l.take (k + 1)) = true by rw [HS.out, G.out, decide_eq_true (by omega)]; rfl)
        go_wp2_with fail
        go_round
        case rel => exact ⟨k + 1, by omega, by go_num, HF⟩
        case measure => simp [intOf] <;> omega
    · obtain rfl : k = L := by omega
      have HF := Lib.hid (show okF lo l = true by have := G.out; rwa [HL.out, List.take_length] at this)
      go_wp2_with fail
      go_ret
      exact ⟨ret_bool HF.out.symm, rfl⟩
theorem valR_big {a b : List Int} (h : 32 < a.length ∨ 32 < b.length) : valR a b = 3 := by unfold valR; rw [if_pos h]
theorem valR_yes {a b : List Int} (h : ¬ (32 < a.length ∨ 32 < b.length)) (h1 : okF 0 a = true) (h2 : okF 1 b = true) : valR a b = 0 := by unfold valR; rw [if_neg h, if_pos ⟨h1, h2⟩]
theorem valR_no {a b : List Int} (h : ¬ (32 < a.length ∨ 32 < b.length)) (h1 : okF 0 a = false ∨ okF 1 b = false) : valR a b = 2 := by
  unfold valR; rw [if_neg h, if_neg (fun g => by rcases h1 with h1 | h1; rw [g.1] at h1; cases h1; rw [g.2] at h1; cases h1)]
set_option maxHeartbeats 1600000 in
theorem avalid_any (a b : List Int) (A B : Option Addr) (ca cb : Nat) (w : World) (ha : Row .i64 w w.heap.size A a) (hla : a.length ≤ maxLen) (hb : Row .i64 w w.heap.size B b) (hlb : b.length ≤ maxLen) :
    Calls Tryz.prog 68 #[.slice A a.length ca, .slice B b.length cb] w fun e w' => e = .returned (.int .i64 (valR a b)) ∧ w = w' := by
  have H0 := Lib.hid (isFrom_any 0 a A ca w ha hla)
  have H1 := Lib.hid (isFrom_any 1 b B cb w hb hlb)
  unfold maxLen at hla hlb
  obtain ⟨L, hL⟩ : ∃ n, n = a.length := ⟨_, rfl⟩
  have HL := Lib.hid hL
  obtain ⟨M, hM⟩ : ∃ n, n = b.length := ⟨_, rfl⟩
  have HM := Lib.hid hM
  rw [← hL] at hla H0 ⊢
  rw [← hM] at hlb H1 ⊢
  clear ha hb hL hM
  by_cases t1 : 32 < L
  · have HF := Lib.hid (valR_big (a := a) (b := b) (Or.inl (by rw [← HL.out]; exact t1)))
    have g1 : (32 : Int) < (L : Int) := by omega
    go_enter Tryz.func68, Tryz.ntmps68
    go_wp2_with fail
    go_ret
    exact ⟨ret_int HF.out.symm, rfl⟩
  have g1 : ¬ (32 : Int) < (L : Int) := by omega
  by_cases t2 : 32 < M
  · have HF := Lib.hid (valR_big (a := a) (b := b) (Or.inr (by rw [← HM.out]; exact t2)))
    have g2 : (32 : Int) < (M : Int) := by omega
    go_enter Tryz.func68, Tryz.ntmps68
    go_wp2_with fail
    go_ret
    exact ⟨ret_int HF.out.symm, rfl⟩
  have g2 : ¬ (32 : Int) < (M : Int) := by omega
  have HN := Lib.hid (show ¬ (32 < a.length ∨ 32 < b.length) by have := HL.out; have := HM.out; omega)
  cases h0 : okF 0 a with
  | false =>
    rw [h0] at H0
    have HF := Lib.hid (valR_no HN.out (Or.inl h0))
    clear h0
    go_enter Tryz.func68, Tryz.ntmps68
    go_wp2_with fail
    refine H0.out.mono ?_
    rintro e w1 ⟨rfl, rfl⟩
    go_wp2_with fail
    go_ret
    exact ⟨ret_int HF.out.symm, rfl⟩
  | true =>
    rw [h0] at H0
    cases h1 : okF 1 b with
    | false =>
      rw [h1] at H1
      have HF := Lib.hid (valR_no HN.out (Or.inr h1))
      clear h0 h1
      go_enter Tryz.func68, Tryz.ntmps68
      go_wp2_with fail
      refine H0.out.mono ?_
      rintro e w1 ⟨rfl, rfl⟩
      go_wp2_with fail
      refine H1.out.mono ?_
      rintro e w1 ⟨rfl, rfl⟩
      go_wp2_with fail
      go_ret
      exact ⟨ret_int HF.out.symm, rfl⟩
    | true =>
      rw [h1] at H1
      have HF := Lib.hid (valR_yes HN.out h0 h1)
      clear h0 h1
      go_enter Tryz.func68, Tryz.ntmps68
      go_wp2_with fail
      refine H0.out.mono ?_
      rintro e w1 ⟨rfl, rfl⟩
      go_wp2_with fail
      refine H1.out.mono ?_
      rintro e w1 ⟨rfl, rfl⟩
      go_wp2_with fail
      go_ret
      exact ⟨ret_int HF.out.symm, rfl⟩
theorem bestZ_skip {b : List Int} {tk : List Bool} {x : Int} {k : Nat} (h : ld b k < x ∨ tk.getD k false = true) : bestZ b tk x (k + 1) = bestZ b tk x k := by
  conv => lhs; unfold bestZ
  rw [if_pos h]
theorem bestZ_new {b : List Int} {tk : List Bool} {x : Int} {k : Nat} (h : ¬ ld b k < x) (h1 : tk.getD k false = false) (h2 : bestZ b tk x k = -1 ∨ ld b k < ld b (bestZ b tk x k).toNat) : bestZ b tk x (k + 1) = (k : Int) := by
  conv => lhs; unfold bestZ
  rw [if_neg (by rw [h1]; simpa using h), if_pos h2]
theorem bestZ_old {b : List Int} {tk : List Bool} {x : Int} {k y : Nat} (h : ¬ ld b k < x) (h1 : tk.getD k false = false) (hy : bestZ b tk x k = (y : Int)) (h2 : ¬ ld b k < ld b y) : bestZ b tk x (k + 1) = (y : Int) := by
  conv => lhs; unfold bestZ
  rw [if_neg (by rw [h1]; simpa using h), if_neg (by rw [hy, Int.toNat_natCast]; rintro (g | g); omega; exact h2 g), hy]
set_option maxHeartbeats 3200000 in
theorem shortest_any (b : List Int) (tk : List Bool) (x : Int) (B : Option Addr) (cb t ct : Nat) (w : World) (hb : Row .i64 w w.heap.size B b) (hlb : b.length ≤ maxLen) (ht : ABSet w t tk) (htl : tk.length = b.length) :
    Calls Tryz.prog 83 #[.slice B b.length cb, .slice (some ⟨t, 0, none⟩) tk.length ct, .int .i64 x] w fun e w' => e = .returned (.int .i64 (bestZ b tk x b.length)) ∧ w = w' := by
  unfold maxLen at hlb
  have H := Lib.hid hb
  have HT := Lib.hid ht
  have HTL := Lib.hid htl
  obtain ⟨M, hM⟩ : ∃ n, n = b.length := ⟨_, rfl⟩
  have HM := Lib.hid hM
  rw [htl]
  rw [← hM] at hlb ⊢
  clear hb ht htl hM
  go_enter Tryz.func83, Tryz.ntmps83
  go_wp2_with fail
  go_loop [7, 12] (fun bv i => ∃ (k : Nat) (B0 : Int), k ≤ M ∧ i = .int .i64 k ∧ bv = .int .i64 B0 ∧ Hid (bestZ b tk x k = B0)) (fun _ i => M - (intOf i).toNat)
  case atStart => exact ⟨0, -1, by omega, rfl, rfl, Lib.hid rfl⟩
  case round =>
    obtain ⟨k, B0, hk, rfl, rfl, G⟩ := hrel
    by_cases hlt : k < M
    · have HLT := Lib.hid (show k < b.length by rw [← HM.out]; exact hlt)
      obtain ⟨ad, rfl, -, c1⟩ := H.out k HLT.out
      have ck := HT.out.cell k (by rw [HTL.out]; exact HLT.out)
      obtain ⟨z, hz⟩ : ∃ z, z = ld b k := ⟨_, rfl⟩
      have HZ := Lib.hid hz
      unfold ld at hz
      rw [← hz] at c1
      clear hz
      by_cases t1 : z < x
      · have HF := Lib.hid (show bestZ b tk x (k + 1) = B0 from (bestZ_skip (Or.inl (by rw [← HZ.out]; exact t1))).trans G.out)
        clear ck
        go_wp2_with fail
        go_round
        case rel => exact ⟨k + 1, B0, by omega, by go_num, rfl, HF⟩
        case measure => simp [intOf] <;> omega
      · cases h1 : tk.getD k false with
        | true =>
          rw [h1] at ck
          have HF := Lib.hid (show bestZ b tk x (k + 1) = B0 from (bestZ_skip (Or.inr h1)).trans G.out)
          clear h1
          go_wp2_with fail
          go_round
          case rel => exact ⟨k + 1, B0, by omega, by go_num, rfl, HF⟩
          case measure => simp [intOf] <;> omega
        | false =>
          rw [h1] at ck
          have HH := Lib.hid h1
          have HT1 := Lib.hid (show ¬ ld b k < x by rw [← HZ.out]; exact t1)
          clear h1
          rcases bestZ_spec b tk x k with ⟨hb0, -⟩ | ⟨y, hb0, hy, -, -⟩
          · rw [G.out] at hb0
            subst hb0
            have HF := Lib.hid (show bestZ b tk x (k + 1) = (k : Int) from bestZ_new HT1.out HH.out (Or.inl G.out))
            go_wp2_with fail
            go_round
            case rel => exact ⟨k + 1, _, by omega, by go_num, rfl, HF⟩
            case measure => simp [intOf] <;> omega
          · rw [G.out] at hb0
            subst hb0
            obtain ⟨ad2, e2, -, c2⟩ := H.out y (by have := HLT.out; omega)
            injection e2 with e2
            subst e2
            obtain ⟨v, hv⟩ : ∃ z, z = ld b y := ⟨_, rfl⟩
            have HV := Lib.hid hv
            unfold ld at hv
            rw [← hv] at c2
            clear hv
            have hyM : (y : Int) < (M : Int) := by omega
            have hy1 : ((y : Int) == -1) = false := by first | (simp; done) | (simp; omega)
            by_cases t2 : z < v
            · have HF := Lib.hid (show bestZ b tk x (k + 1) = (k : Int) from bestZ_new HT1.out HH.out (Or.inr (by rw [G.out, Int.toNat_natCast, ← HZ.out, ← HV.out]; exact t2)))
              go_wp2_with fail
              go_round
              case rel => exact ⟨k + 1, _, by omega, by go_num, rfl, HF⟩
              case measure => simp [intOf] <;> omega
            · have HF := Lib.hid (show bestZ b tk x (k + 1) = (y : Int) from bestZ_old HT1.out HH.out G.out (by rw [← HZ.out, ← HV.out]; exact t2))
              go_wp2_with fail
              go_round
              case rel => exact ⟨k + 1, _, by omega, by go_num, rfl, HF⟩
              case measure => simp [intOf] <;> omega
    · obtain rfl : k = M := by omega
      go_wp2_with fail
      go_ret
      exact ⟨ret_int G.out.symm, rfl⟩
/-- The first k are ascending. -/
def risK (r : List Int) (k : Nat) : Bool := (List.range k).all fun i => decide (i = 0 ∨ ld r (i - 1) < ld r i)
end Go.Proofs.YtimkmieohkefiaaGreat

namespace Go.Proofs.YtimkmieohkefiaaGreat
open Go.RowKit Go.Lib

/-- The marks behind k loads of a list l, if it fits so far. -/
def fitK (a b l : List Int) : Nat → Option (List Bool)
  | 0 => some (List.replicate b.length false)
  | k + 1 => match fitK a b l k with
    | none => none
    | some tk => if ld a k = 0 then (if ld l k = -1 then some tk else none) else if ld l k < 0 ∨ (b.length : Int) ≤ ld l k ∨ ld b (ld l k).toNat < ld a k ∨ tk.getD (ld l k).toNat false = true then none else some (tk.set (ld l k).toNat true)
def fitR (a b l : List Int) : Bool := decide (valR a b = 0) && (decide (l.length = a.length) && (fitK a b l l.length).isSome)
theorem fitK_len {a b l : List Int} : ∀ {k : Nat} {tk : List Bool}, fitK a b l k = some tk → tk.length = b.length
  | 0, tk, h => by
    unfold fitK at h
    injection h with h
    subst h; simp
  | k + 1, tk, h => by
    unfold fitK at h
    cases hk : fitK a b l k with
    | none => rw [hk] at h; cases h
    | some t0 =>
      rw [hk] at h
      have ih := fitK_len hk
      simp only at h
      split at h
      · split at h
        · injection h with h; subst h; exact ih
        · cases h
      · split at h
        · cases h
        · injection h with h; subst h; rw [List.length_set]; exact ih
theorem fitK_none {a b l : List Int} {k : Nat} (h : fitK a b l k = none) : ∀ n, fitK a b l (k + n) = none
  | 0 => h
  | n + 1 => by
    rw [← Nat.add_assoc]
    conv => lhs; unfold fitK
    rw [fitK_none h n]
theorem fitR_none {a b l : List Int} {k : Nat} (h : fitK a b l k = none) (hk : k ≤ l.length) : fitR a b l = false := by
  obtain ⟨n, hn⟩ : ∃ n, l.length = k + n := ⟨l.length - k, by omega⟩
  unfold fitR
  have := fitK_none h n
  rw [← hn] at this
  rw [this]; simp
theorem fitK_zero {a b l : List Int} {k : Nat} {tk : List Bool} (h : fitK a b l k = some tk) (h0 : ld a k = 0) (h1 : ld l k = -1) : fitK a b l (k + 1) = some tk := by
  conv => lhs; unfold fitK
  rw [h]; simp only; rw [if_pos h0, if_pos h1]
theorem fitK_bad0 {a b l : List Int} {k : Nat} {tk : List Bool} (h : fitK a b l k = some tk) (h0 : ld a k = 0) (h1 : ld l k ≠ -1) : fitK a b l (k + 1) = none := by
  conv => lhs; unfold fitK
  rw [h]; simp only; rw [if_pos h0, if_neg h1]
theorem fitK_bad {a b l : List Int} {k : Nat} {tk : List Bool} (h : fitK a b l k = some tk) (h0 : ld a k ≠ 0) (h1 : ld l k < 0 ∨ (b.length : Int) ≤ ld l k ∨ ld b (ld l k).toNat < ld a k ∨ tk.getD (ld l k).toNat false = true) : fitK a b l (k + 1) = none := by
  conv => lhs; unfold fitK
  rw [h]; simp only; rw [if_neg h0, if_pos h1]
theorem fitK_good {a b l : List Int} {k y : Nat} {tk : List Bool} (h : fitK a b l k = some tk) (h0 : ld a k ≠ 0) (hy : ld l k = (y : Int)) (hyb : y < b.length) (h1 : ¬ ld b y < ld a k) (h2 : tk.getD y false = false) : fitK a b l (k + 1) = some (tk.set y true) := by
  conv => lhs; unfold fitK
  rw [h]; simp only; rw [if_neg h0, hy, Int.toNat_natCast, if_neg (by rintro (g | g | g | g); omega; omega; exact h1 g; rw [h2] at g; cases g)]
set_option maxRecDepth 100000 in
set_option maxHeartbeats 6400000 in
theorem afits_any (a b l : List Int) (A Bb C : Option Addr) (ca cb cl : Nat) (w : World) (ha : Row .i64 w w.heap.size A a) (hla : a.length ≤ maxLen) (hb : Row .i64 w w.heap.size Bb b) (hlb : b.length ≤ maxLen) (hl : Row .i64 w w.heap.size C l) (hll : l.length ≤ maxLen) :
    Calls Tryz.prog 47 #[.slice A a.length ca, .slice Bb b.length cb, .slice C l.length cl] w fun e w' => e = .returned (.bool (fitR a b l)) ∧ Below w.heap.size w w' := by
  have HV := Lib.hid (avalid_any a b A Bb ca cb w ha hla hb hlb)
  have HA := Lib.hid ha
  have HB := Lib.hid hb
  have HC := Lib.hid hl
  obtain ⟨L, hL⟩ : ∃ n, n = a.length := ⟨_, rfl⟩
  obtain ⟨M, hM⟩ : ∃ n, n = b.length := ⟨_, rfl⟩
  obtain ⟨K, hK⟩ : ∃ n, n = l.length := ⟨_, rfl⟩
  have HL := Lib.hid hL
  have HM := Lib.hid hM
  have HK := Lib.hid hK
  unfold maxLen at hla hlb hll
  rw [← hL] at HV hla ⊢
  rw [← hM] at HV hlb ⊢
  rw [← hK] at hll ⊢
  by_cases hv : valR a b = 0
  · have V := vd_of hv
    have hM32 : M ≤ 32 := by have := V.lb; omega
    have HVR := Lib.hid hv
    rw [hv] at HV
    by_cases hKL : K = L
    · subst hKL
      have HR := Lib.hid (show fitR a b l = (fitK a b l K).isSome by unfold fitR; rw [hv, HK.out]; simp [← HK.out, ← HL.out])
      clear ha hb hl hL hM hK hv V hla
      have mk := amake_bools w M (by omega)
      obtain ⟨CB, hCB⟩ : ∃ C, C = ((List.replicate M false).map Value.bool).toArray := ⟨_, rfl⟩
      have hbs := ABSet.new w (List.replicate M false) w.heap.size rfl
      rw [← hCB] at mk hbs
      clear hCB
      have BS2 := Lib.hid hbs
      have B2 := Lib.hid ((Below.refl w.heap.size w).alloc (Nat.le_refl _) (.cells CB 4))
      clear hbs
      go_enter Tryz.func47, Tryz.ntmps47
      go_wp2_with fail
      refine HV.out.mono ?_
      rintro e w1 ⟨rfl, hw⟩
      subst hw
      clear HV
      go_upto_region 4 with fail
      clear mk
      obtain ⟨t, ht⟩ : ∃ t, t = w.heap.size := ⟨_, rfl⟩
      have HT := Lib.hid (show w.heap.size ≤ t by omega)
      rw [← ht] at BS2 ⊢
      generalize w.alloc (.cells CB 4) = w3 at *
      clear ht
      go_wp2_with fail
      go_loopw [26] (fun iv wr => ∃ k : Nat, k ≤ K ∧ iv = .int .i64 (k : Int) ∧ Hid (∃ tk, fitK a b l k = some tk ∧ ABSet wr t tk) ∧ Hid (Below w.heap.size w wr)) (fun iv _ => K - (intOf iv).toNat)
      case atStart => exact ⟨0, by omega, rfl, Lib.hid ⟨_, rfl, by rw [← HM.out]; exact BS2.out⟩, B2⟩
      case round =>
        clear BS2 B2
        obtain ⟨k, hk, rfl, FT, B⟩ := hrel
        obtain ⟨tk, hft, hbs⟩ := FT.out
        have HF := Lib.hid hft
        have HBS := Lib.hid hbs
        have HTL := Lib.hid (fitK_len hft)
        clear hft hbs FT
        by_cases hlt : k < K
        · have hltz : (k : Int) < (K : Int) := by omega
          obtain ⟨la, rfl, -, c1⟩ := (HC.out.below B.out) k (by rw [← HK.out]; exact hlt)
          obtain ⟨aa, rfl, -, c2⟩ := (HA.out.below B.out) k (by rw [← HL.out]; exact hlt)
          obtain ⟨y, hy⟩ : ∃ z, z = ld l k := ⟨_, rfl⟩
          obtain ⟨x, hx⟩ : ∃ z, z = ld a k := ⟨_, rfl⟩
          change wr.cell? _ = some (Value.int .i64 (ld l k)) at c1
          change wr.cell? _ = some (Value.int .i64 (ld a k)) at c2
          rw [← hy] at c1
          rw [← hx] at c2
          have HY := Lib.hid hy
          have HX := Lib.hid hx
          clear hy hx
          have HBAD := Lib.hid (show fitK a b l (k + 1) = none → fitR a b l = false from fun h => fitR_none h (by rw [← HK.out]; omega))
          by_cases h0 : x = 0
          · have hx0 : (x == 0) = true := by simp [h0]
            by_cases h1 : y = -1
            · have hy1 : (y == -1) = true := by simp [h1]
              have HN := Lib.hid (show ∃ tk, fitK a b l (k + 1) = some tk ∧ ABSet wr t tk from ⟨tk, fitK_zero HF.out (by rw [← HX.out]; exact h0) (by rw [← HY.out]; exact h1), HBS.out⟩)
              clear h0 h1
              go_wp2_with fail
              go_roundw
              case rel => exact ⟨k + 1, by omega, by go_num, HN, B⟩
              case measure => simp [intOf]; omega
            · have hy1 : (y == -1) = false := by simpa using h1
              have HZ := Lib.hid (HBAD.out (fitK_bad0 HF.out (by rw [← HX.out]; exact h0) (by rw [← HY.out]; exact h1)))
              clear h0 h1
              go_upto_region 8 with fail
              go_quiet (fail)
              go_wp2_with fail
              go_ret
              exact ⟨ret_bool HZ.out.symm, bdn B.out⟩
          · have hx0 : (x == 0) = false := by simpa using h0
            have HX0 := Lib.hid (show ld a k ≠ 0 by rw [← HX.out]; exact h0)
            clear h0
            by_cases h1 : y < 0
            · have hd1 : decide (y < 0) = true := decide_eq_true h1
              have HZ := Lib.hid (HBAD.out (fitK_bad HF.out HX0.out (Or.inl (by rw [← HY.out]; exact h1))))
              go_upto_region 8 with fail
              go_quiet (fail)
              go_wp2_with fail
              go_ret
              exact ⟨ret_bool HZ.out.symm, bdn B.out⟩
            · obtain ⟨yn, rfl⟩ := Int.eq_ofNat_of_zero_le (show 0 ≤ y by omega)
              have hd1 : decide ((yn : Int) < 0) = false := decide_eq_false h1
              by_cases h2 : M ≤ yn
              · have hd2 : decide ((yn : Int) ≥ (M : Int)) = true := decide_eq_true (by omega)
                have hd2' : decide ((M : Int) ≤ (yn : Int)) = true := decide_eq_true (by omega)
                have hd2n : (M : Int) ≤ (yn : Int) := by omega
                have HZ := Lib.hid (HBAD.out (fitK_bad HF.out HX0.out (Or.inr (Or.inl (by rw [← HY.out, ← HM.out]; omega)))))
                go_upto_region 8 with fail
                go_quiet (fail)
                go_wp2_with fail
                go_ret
                exact ⟨ret_bool HZ.out.symm, bdn B.out⟩
              · have hd2 : decide ((yn : Int) ≥ (M : Int)) = false := decide_eq_false (by omega)
                have hd2' : decide ((M : Int) ≤ (yn : Int)) = false := decide_eq_false (by omega)
                have hyM : (yn : Int) < (M : Int) := by omega
                have hyM2 : yn < M := by omega
                obtain ⟨ba, rfl, -, c3⟩ := (HB.out.below B.out) yn (by rw [← HM.out]; exact hyM2)
                obtain ⟨z, hz⟩ : ∃ z, z = ld b yn := ⟨_, rfl⟩
                change wr.cell? _ = some (Value.int .i64 (ld b yn)) at c3
                rw [← hz] at c3
                have HZB := Lib.hid hz
                clear hz
                by_cases h3 : z < x
                · have hd3 : decide (z < x) = true := decide_eq_true h3
                  have HZ := Lib.hid (HBAD.out (fitK_bad HF.out HX0.out (Or.inr (Or.inr (Or.inl (by rw [← HY.out, Int.toNat_natCast, ← HZB.out, ← HX.out]; exact h3))))))
                  go_upto_region 8 with fail
                  go_quiet (fail)
                  go_wp2_with fail
                  go_ret
                  exact ⟨ret_bool HZ.out.symm, bdn B.out⟩
                · have hd3 : decide (z < x) = false := decide_eq_false h3
                  have ct := HBS.out.cell yn (by rw [HTL.out, ← HM.out]; exact hyM2)
                  cases h4 : tk.getD yn false with
                  | true =>
                    rw [h4] at ct
                    have HZ := Lib.hid (HBAD.out (fitK_bad HF.out HX0.out (Or.inr (Or.inr (Or.inr (by rw [← HY.out, Int.toNat_natCast]; exact h4))))))
                    clear h4
                    go_upto_region 8 with fail
                    go_quiet (fail)
                    go_wp2_with fail
                    go_ret
                    exact ⟨ret_bool HZ.out.symm, bdn B.out⟩
                  | false =>
                    rw [h4] at ct
                    have HG := Lib.hid (fitK_good HF.out HX0.out HY.out.symm (by rw [← HM.out]; exact hyM2) (by rw [← HZB.out, ← HX.out]; exact h3) h4)
                    clear h4
                    go_upto_region 8 with fail
                    go_quiet (fail)
                    have ct2 : (wr.drewN nq).cell? ⟨t, yn, none⟩ = some (.bool false) := ct
                    have ft2 : (wr.drewN nq).frozen? ⟨t, yn, none⟩ = false := HBS.out.frozen yn
                    have HN := Lib.hid (show ∃ tk, fitK a b l (k + 1) = some tk ∧ ABSet ((wr.drewN nq).setCell ⟨t, yn, none⟩ (.bool true)) t tk from ⟨_, HG.out, (HBS.out.drewN nq).set yn true⟩)
                    have HB2 := Lib.hid ((bdn (n := nq) B.out).setCell (p := ⟨t, yn, none⟩) HT.out (.bool true))
                    clear ct
                    go_wp2_with fail
                    go_roundw
                    case rel => exact ⟨k + 1, by omega, by go_num, HN, HB2⟩
                    case measure => simp [intOf]; omega
        · obtain rfl : k = K := by omega
          have hltz : ¬ (k : Int) < (k : Int) := by omega
          go_wp2_with fail
          go_ret
          exact ⟨ret_bool (by rw [HR.out, HF.out]; rfl), B.out⟩
    · have hKz : ((K : Int) != (L : Int)) = true := by simp; omega
      have HF := Lib.hid (show fitR a b l = false by unfold fitR; rw [hv]; simp; omega)
      clear ha hb hl hL hM hK hv V
      go_enter Tryz.func47, Tryz.ntmps47
      go_wp2_with fail
      refine HV.out.mono ?_
      rintro e w1 ⟨rfl, hw⟩
      subst hw
      clear HV
      go_wp2_with fail
      go_ret
      exact ⟨ret_bool HF.out.symm, Below.refl _ _⟩
  · obtain ⟨ev, hev⟩ : ∃ z, z = valR a b := ⟨_, rfl⟩
    rw [← hev] at HV
    have hne : (ev != 0) = true := by rw [hev]; simpa using hv
    have HF := Lib.hid (show fitR a b l = false by unfold fitR; rw [decide_eq_false hv]; rfl)
    clear ha hb hl hL hM hK hv hev
    go_enter Tryz.func47, Tryz.ntmps47
    go_wp2_with fail
    refine HV.out.mono ?_
    rintro e w1 ⟨rfl, hw⟩
    subst hw
    clear HV
    go_wp2_with fail
    go_ret
    exact ⟨ret_bool HF.out.symm, Below.refl _ _⟩
/-- Is number i of the list an index of a load? -/
def okx (a r : List Int) (i : Nat) : Bool := decide (0 ≤ ld r i ∧ ld r i < (a.length : Int) ∧ ld a (ld r i).toNat ≠ 0)
def okK (a r : List Int) (k : Nat) : Bool := (List.range k).all (okx a r)
def aleastK (a r : List Int) : Nat → Int
  | 0 => 38400
  | k + 1 => min2 (aleastK a r k) (ld a (ld r k).toNat)
def refR (a b r : List Int) : Bool := decide (valR a b = 0) && (risK r r.length && (okK a r r.length && decide ((cF b (aleastK a r r.length) : Int) < (r.length : Int))))
end Go.Proofs.YtimkmieohkefiaaGreat
