/-
  ZB: joined.
-/
import Derived.Test.YtlagadbkencpbaaBA1
import Derived.Test.YtlagadbkencpbaaBA2
import Derived.Test.YtlagadbkencpbaaBA3
set_option linter.unusedSimpArgs false
set_option linter.unusedVariables false
namespace Go.Proofs.Ytlagadbkencpbaa
open Go.RowKit Go.Lib

theorem make_listsN (w : World) (X : Nat) (hX : X ≤ 1000) : (Instr.makeSlice 52 (.int .i64 (X : Int)) (.int .i64 (X : Int))).run Try.prog w = .ok (.slice (some ⟨w.heap.size, 0, none⟩) X X) (w.alloc (.cells (List.replicate X (Value.slice none 0 0)).toArray 22)) := by
  obtain ⟨i0, hi, hz0, hz1, hz2⟩ := info_parts infoSli
  have h := run_make (P := Try.prog) w 52 22 i0 (.slice none 0 0) Try.underlying52 hi hz0 .i64 .i64 (X : Int) (X : Int) (by omega) (Int.le_refl _) (by rw [hz2]; omega) (by omega)
  rw [hz1, Int.toNat_natCast] at h
  have e : madeCells (Value.slice none 0 0).cells (X * 1) = (List.replicate X (Value.slice none 0 0)).toArray := by
    rw [Nat.mul_one]
    apply Array.ext'
    refine List.ext_getElem? fun j => ?_
    unfold madeCells
    by_cases h : j < X
    · simp [h, Nat.mod_one, Value.cells]
    · simp [h]
  rw [e] at h
  exact h
/-- A block that was laid since w1. -/
structure Got (w1 W : World) (g : Nat) (o : Obj) : Prop where
  at_ : W.heap[g]? = some o
  le : w1.heap.size ≤ g
theorem Got.lt {w1 W : World} {g : Nat} {o : Obj} (h : Got w1 W g o) : g < W.heap.size := (Array.getElem?_eq_some_iff.1 h.at_).1
theorem Got.below {w1 W W' : World} {g : Nat} {o : Obj} (h : Got w1 W g o) (k : Below W.heap.size W W') : Got w1 W' g o := ⟨(k.block g h.lt).trans h.at_, h.le⟩
theorem Got.new {w1 W W' : World} {o : Obj} (h : Below w1.heap.size w1 W) (e : W' = W.alloc o) : Got w1 W' W.heap.size o := by
  subst e
  exact ⟨by show (W.heap.push _)[W.heap.size]? = _; rw [Array.getElem?_push, if_pos rfl], h.size⟩
theorem OL.nils {W : World} {g n base : Nat} (h : W.heap[g]? = some (.cells (List.replicate n (Value.slice none 0 0)).toArray 22 (0, 0))) (hb : g < base) (hl : base ≤ W.heap.size) : OL W g base (List.replicate n (Value.slice none 0 0)) ((List.replicate n ([] : List Nat)).map toZ) := by
  have nil : ∀ (k : Nat) u, (List.replicate n (Value.slice none 0 0))[k]? = some u → u = .slice none 0 0 := fun k u hu => by
    rw [List.getElem?_replicate] at hu
    split at hu
    · injection hu with hu; exact hu.symm
    · cases hu
  refine ⟨h, by simp, fun k u t hu ht => ?_, fun j k u z _ hu hz b hb1 => ?_, hb, hl⟩
  · rw [nil k u hu]
    rw [List.getElem?_map, List.getElem?_replicate] at ht
    split at ht
    · injection ht with ht; subst ht; exact Own.nil
    · cases ht
  · rw [nil j u hu] at hb1; cases hb1
theorem Two.nils {W w1 : World} {gs gt b S T : Nat} (hs : W.heap[gs]? = some (.cells (List.replicate S (Value.slice none 0 0)).toArray 22 (0, 0))) (ht : W.heap[gt]? = some (.cells (List.replicate T (Value.slice none 0 0)).toArray 22 (0, 0)))
    (hne : gs ≠ gt) (h1 : w1.heap.size ≤ gs) (h2 : w1.heap.size ≤ gt) (hb : b < W.heap.size) (n1 : gs ≠ b) (n2 : gt ≠ b) (hle : w1.heap.size ≤ W.heap.size) : Two (fun k => k < w1.heap.size ∨ k = b) W gs gt W.heap.size (List.replicate S []) (List.replicate T []) := by
  have l1 := (Array.getElem?_eq_some_iff.1 hs).1
  have l2 := (Array.getElem?_eq_some_iff.1 ht).1
  have nil : ∀ (n k : Nat) u, (List.replicate n (Value.slice none 0 0))[k]? = some u → u.ownBlock = none := fun n k u hu => by
    rw [List.getElem?_replicate] at hu
    split at hu
    · injection hu with hu; rw [← hu]; rfl
    · cases hu
  refine ⟨⟨_, _, OL.nils hs l1 (Nat.le_refl _), OL.nils ht l2 (Nat.le_refl _), fun i j u v hu hv b hb => ?_, fun k hk i u hu => ?_, fun k hk i u hu => ?_⟩, hne, fun k hk => ?_⟩
  · rw [nil S i u hu] at hb; cases hb
  · rw [nil S i u hu]; simp
  · rw [nil T i u hu]; simp
  · rcases hk with hk | rfl
    · exact ⟨by omega, by omega, by omega⟩
    · exact ⟨hb, Ne.symm n1, Ne.symm n2⟩
/-- The machine before the first push. -/
structure MStart (w1 W : World) (b : Nat) (A : Option Addr) (L c : Nat) (pA : Option Addr) (n pc gs S gt T base : Nat) : Prop where
  box : MB W b A L c pA n pc gs S gt T 0 0
  two : Two (fun k => k < w1.heap.size ∨ k = b) W gs gt base (List.replicate S []) (List.replicate T [])
  bel : Below w1.heap.size w1 W
  le : w1.heap.size ≤ gs ∧ w1.heap.size ≤ gt ∧ w1.heap.size ≤ b
theorem cell_of {W : World} {b j : Nat} {vs : Array Value} {T : TypeId} {v : Value} (h : W.heap[b]? = some (.cells vs T (0, 0))) (hj : vs[j]? = some v) : W.cell? ⟨b, j, none⟩ = some v := by
  unfold World.cell?; rw [h]; exact hj
theorem zero6 {W : World} {b : Nat} {T : TypeId} (h : W.heap[b]? = some (.cells #[.slice none 0 0, .slice none 0 0, .slice none 0 0, .slice none 0 0, .int .i64 0, .int .i64 0] T (0, 0))) :
    (W.cell? ⟨b, 0, none⟩ = some (.slice none 0 0) ∧ W.cell? ⟨b, 1, none⟩ = some (.slice none 0 0) ∧ W.cell? ⟨b, 2, none⟩ = some (.slice none 0 0) ∧ W.cell? ⟨b, 3, none⟩ = some (.slice none 0 0) ∧ W.cell? ⟨b, 4, none⟩ = some (.int .i64 0) ∧ W.cell? ⟨b, 5, none⟩ = some (.int .i64 0)) ∧ ∀ j, W.frozen? ⟨b, j, none⟩ = false :=
  ⟨⟨cell_of h rfl, cell_of h rfl, cell_of h rfl, cell_of h rfl, cell_of h rfl, cell_of h rfl⟩, fun j => by unfold World.frozen?; rw [h]; rfl⟩
/-- Six cells written. -/
abbrev put6 (W : World) (b : Nat) (v0 v1 v2 v3 v4 v5 : Value) : World :=
  (((((W.setCell ⟨b, 0, none⟩ v0).setCell ⟨b, 1, none⟩ v1).setCell ⟨b, 2, none⟩ v2).setCell ⟨b, 3, none⟩ v3).setCell ⟨b, 4, none⟩ v4).setCell ⟨b, 5, none⟩ v5
theorem put6_heap (W : World) (b k : Nat) (v0 v1 v2 v3 v4 v5 : Value) (h : k ≠ b) : (put6 W b v0 v1 v2 v3 v4 v5).heap[k]? = W.heap[k]? := by
  unfold put6
  rw [Below.heap_setCell _ _ _ _ h, Below.heap_setCell _ _ _ _ h, Below.heap_setCell _ _ _ _ h, Below.heap_setCell _ _ _ _ h, Below.heap_setCell _ _ _ _ h, Below.heap_setCell _ _ _ _ h]
theorem put6_size (W : World) (b : Nat) (v0 v1 v2 v3 v4 v5 : Value) : (put6 W b v0 v1 v2 v3 v4 v5).heap.size = W.heap.size := by
  unfold put6
  rw [World.size_setCell, World.size_setCell, World.size_setCell, World.size_setCell, World.size_setCell, World.size_setCell]
theorem put6_cells {W : World} {b : Nat} {u0 u1 u2 u3 u4 u5 : Value} (h0 : W.cell? ⟨b, 0, none⟩ = some u0) (h1 : W.cell? ⟨b, 1, none⟩ = some u1) (h2 : W.cell? ⟨b, 2, none⟩ = some u2) (h3 : W.cell? ⟨b, 3, none⟩ = some u3) (h4 : W.cell? ⟨b, 4, none⟩ = some u4) (h5 : W.cell? ⟨b, 5, none⟩ = some u5) (v0 v1 v2 v3 v4 v5 : Value) :
    (put6 W b v0 v1 v2 v3 v4 v5).cell? ⟨b, 0, none⟩ = some v0 ∧ (put6 W b v0 v1 v2 v3 v4 v5).cell? ⟨b, 1, none⟩ = some v1 ∧ (put6 W b v0 v1 v2 v3 v4 v5).cell? ⟨b, 2, none⟩ = some v2 ∧ (put6 W b v0 v1 v2 v3 v4 v5).cell? ⟨b, 3, none⟩ = some v3 ∧ (put6 W b v0 v1 v2 v3 v4 v5).cell? ⟨b, 4, none⟩ = some v4 ∧ (put6 W b v0 v1 v2 v3 v4 v5).cell? ⟨b, 5, none⟩ = some v5 := by
  have o : ∀ (W : World) (i j : Nat) (u : Value), i ≠ j → (W.setCell ⟨b, i, none⟩ u).cell? ⟨b, j, none⟩ = W.cell? ⟨b, j, none⟩ := fun W i j u h => World.cell?_setCell_other _ _ _ _ (by intro e; first | exact h (congrArg Addr.off e) | exact h (congrArg Addr.off e).symm)
  refine ⟨?_, ?_, ?_, ?_, ?_, ?_⟩
  · unfold put6; rw [o _ _ _ _ (by decide), o _ _ _ _ (by decide), o _ _ _ _ (by decide), o _ _ _ _ (by decide), o _ _ _ _ (by decide)]; exact World.cell?_setCell_same _ _ _ h0
  · unfold put6; rw [o _ _ _ _ (by decide), o _ _ _ _ (by decide), o _ _ _ _ (by decide), o _ _ _ _ (by decide)]; exact World.cell?_setCell_same _ _ _ (by rw [o _ _ _ _ (by decide)]; exact h1)
  · unfold put6; rw [o _ _ _ _ (by decide), o _ _ _ _ (by decide), o _ _ _ _ (by decide)]; exact World.cell?_setCell_same _ _ _ (by rw [o _ _ _ _ (by decide), o _ _ _ _ (by decide)]; exact h2)
  · unfold put6; rw [o _ _ _ _ (by decide), o _ _ _ _ (by decide)]; exact World.cell?_setCell_same _ _ _ (by rw [o _ _ _ _ (by decide), o _ _ _ _ (by decide), o _ _ _ _ (by decide)]; exact h3)
  · unfold put6; rw [o _ _ _ _ (by decide)]; exact World.cell?_setCell_same _ _ _ (by rw [o _ _ _ _ (by decide), o _ _ _ _ (by decide), o _ _ _ _ (by decide), o _ _ _ _ (by decide)]; exact h4)
  · unfold put6; exact World.cell?_setCell_same _ _ _ (by rw [o _ _ _ _ (by decide), o _ _ _ _ (by decide), o _ _ _ _ (by decide), o _ _ _ _ (by decide), o _ _ _ _ (by decide)]; exact h5)
theorem put6_frozen (W : World) (b : Nat) (v0 v1 v2 v3 v4 v5 : Value) (p : Addr) : (put6 W b v0 v1 v2 v3 v4 v5).frozen? p = W.frozen? p := by
  unfold put6
  rw [World.frozen?_setCell, World.frozen?_setCell, World.frozen?_setCell, World.frozen?_setCell, World.frozen?_setCell, World.frozen?_setCell]
theorem put6_below {B b : Nat} {w W : World} (h : Below B w W) (hb : B ≤ b) (v0 v1 v2 v3 v4 v5 : Value) : Below B w (put6 W b v0 v1 v2 v3 v4 v5) :=
  (((((h.setCell (p := ⟨b, 0, none⟩) hb _).setCell (p := ⟨b, 1, none⟩) hb _).setCell (p := ⟨b, 2, none⟩) hb _).setCell (p := ⟨b, 3, none⟩) hb _).setCell (p := ⟨b, 4, none⟩) hb _).setCell (p := ⟨b, 5, none⟩) hb _
theorem mach_new {w1 W : World} {gs gt b S T : Nat} (hs : Got w1 W gs (.cells (List.replicate S (Value.slice none 0 0)).toArray 22)) (ht : Got w1 W gt (.cells (List.replicate T (Value.slice none 0 0)).toArray 22))
    (hb : Got w1 W b (.cells #[.slice none 0 0, .slice none 0 0, .slice none 0 0, .slice none 0 0, .int .i64 0, .int .i64 0] 88)) (n1 : gs ≠ gt) (n2 : gs ≠ b) (n3 : gt ≠ b) (hB : Below w1.heap.size w1 W)
    (A : Option Addr) (L c : Nat) (pA : Option Addr) (n pc : Nat) :
    MStart w1 (put6 W b (.slice A L c) (.slice pA n pc) (.slice (some ⟨gs, 0, none⟩) S S) (.slice (some ⟨gt, 0, none⟩) T T) (.int .i64 0) (.int .i64 0)) b A L c pA n pc gs S gt T W.heap.size := by
  obtain ⟨⟨z0, z1, z2, z3, z4, z5⟩, zf⟩ := zero6 hb.at_
  obtain ⟨c0, c1, c2, c3, c4, c5⟩ := put6_cells z0 z1 z2 z3 z4 z5 (.slice A L c) (.slice pA n pc) (.slice (some ⟨gs, 0, none⟩) S S) (.slice (some ⟨gt, 0, none⟩) T T) (.int .i64 0) (.int .i64 0)
  have two := Two.nils (w1 := w1) (W := put6 W b (.slice A L c) (.slice pA n pc) (.slice (some ⟨gs, 0, none⟩) S S) (.slice (some ⟨gt, 0, none⟩) T T) (.int .i64 0) (.int .i64 0)) (b := b) ((put6_heap _ _ _ _ _ _ _ _ _ n2).trans hs.at_) ((put6_heap _ _ _ _ _ _ _ _ _ n3).trans ht.at_) n1 hs.le ht.le (by rw [put6_size]; exact hb.lt) n2 n3 (by rw [put6_size]; exact hB.size)
  rw [put6_size] at two
  exact ⟨⟨c0, c1, c2, c3, c4, c5, fun j => by rw [put6_frozen]; exact zf j, by rw [put6_size]; exact hb.lt⟩, two, put6_below hB hb.le _ _ _ _ _ _, hs.le, ht.le, hb.le⟩
/-- The machine's value. -/
abbrev mvv (A : Option Addr) (L c : Nat) (pA : Option Addr) (n pc gs S gt T : Nat) (mv pu : Int) : Value := .agg #[.slice A L c, .slice pA n pc, .slice (some ⟨gs, 0, none⟩) S S, .slice (some ⟨gt, 0, none⟩) T T, .int .i64 mv, .int .i64 pu]
theorem results_mach {fn : Func} {p : Tmp} (hf : fn.results = #[.cell p 88]) (tmps : Array Value) (w : World) (b : Nat) (v0 v1 v2 v3 v4 v5 : Value) (hp : tmps.getD p undef = .pointer (some ⟨b, 0, none⟩))
    (c0 : w.cell? ⟨b, 0, none⟩ = some v0) (c1 : w.cell? ⟨b, 1, none⟩ = some v1) (c2 : w.cell? ⟨b, 2, none⟩ = some v2) (c3 : w.cell? ⟨b, 3, none⟩ = some v3) (c4 : w.cell? ⟨b, 4, none⟩ = some v4) (c5 : w.cell? ⟨b, 5, none⟩ = some v5) :
    (results fn tmps).run Try.prog w = .ok (.agg #[v0, v1, v2, v3, v4, v5]) w := by
  have hp' : tmps[p]?.getD undef = .pointer (some ⟨b, 0, none⟩) := by simpa using hp
  simp [results, hf, go_sem, hp', c0, c1, c2, c3, c4, c5, asAddr]
/-- What machineBehind leaves. -/
def MachPost (l : List It) (S : Nat) (v : List Int) (A : Option Addr) (c L : Nat) (pA : Option Addr) (n pc T last : Nat) (w : World) (e : Ending) (w' : World) : Prop :=
  ∃ gs gt base, e = .returned (mvv A L c pA n pc gs S gt T (mM S l.length (cdN v) (rdN l) (last + 1) : Int) (mP S l.length (cdN v) (rdN l) (last + 1) : Int)) ∧
    Two (fun k => k < w.heap.size) w' gs gt base (mS S l.length (cdN v) (rdN l) (last + 1)) (mT S l.length T (cdN v) (rdN l) (tnN l) (last + 1)) ∧ Below w.heap.size w w' ∧ w.heap.size ≤ gs ∧ w.heap.size ≤ gt
set_option maxRecDepth 100000 in
set_option maxHeartbeats 6400000 in
theorem mach_any (l : List It) (wt : Int) (S : Nat) (v : List Int) (hpl : Pl l wt S v) (A : Option Addr) (c L : Nat) (hL : L = l.length) (pA : Option Addr) (n pc T last : Nat) (hn : n = v.length) (hT : T = tnT l) (hlast : last ≤ S) (w : World) (h : IRow w A l) (hp : Row .i64 w w.heap.size pA v) :
    Calls Try.prog 50 #[jv A L c wt, pv (S : Int) pA n pc, .int .i64 (last : Int)] w (MachPost l S v A c L pA n pc T last w) := by
  have hS := hpl.s12
  have htc := tcI_bd (valid_ok hpl.val).2.1 l.length (Nat.le_refl _)
  have hT16 : T ≤ 16 := by rw [hT]; unfold tnT; omega
  have hTI : tcI l l.length = (T : Int) := by rw [hT]; unfold tnT; omega
  obtain ⟨HJ0, HP0, HB0⟩ := pbox2 w A L c wt (S : Int) pA n pc
  have BX := (Below.refl _ ((w.alloc (.cells #[.slice A L c, .int .i64 wt] 39)).alloc (.cells #[.int .i64 (S : Int), .slice pA n pc] 24))).alloc (Nat.le_refl _) (.cells #[.slice none 0 0, .slice none 0 0, .slice none 0 0, .slice none 0 0, .int .i64 0, .int .i64 0] 88)
  have HR := Lib.hid (zero6 (W := ((w.alloc (.cells #[.slice A L c, .int .i64 wt] 39)).alloc (.cells #[.int .i64 (S : Int), .slice pA n pc] 24)).alloc (.cells #[.slice none 0 0, .slice none 0 0, .slice none 0 0, .slice none 0 0, .int .i64 0, .int .i64 0] 88)) (b := w.heap.size + 2) (T := 88) (by
    have e : ((w.alloc (.cells #[.slice A L c, .int .i64 wt] 39)).alloc (.cells #[.int .i64 (S : Int), .slice pA n pc] 24)).heap.size = w.heap.size + 2 := by simp
    rw [← e]; exact heap_alloc_new _ _))
  have HSZ := Lib.hid (show (((w.alloc (.cells #[.slice A L c, .int .i64 wt] 39)).alloc (.cells #[.int .i64 (S : Int), .slice pA n pc] 24)).alloc (.cells #[.slice none 0 0, .slice none 0 0, .slice none 0 0, .slice none 0 0, .int .i64 0, .int .i64 0] 88)).heap.size = w.heap.size + 3 by simp)
  have HJ := Lib.hid (HJ0.below BX HJ0.lt)
  have HP := Lib.hid (HP0.below BX HP0.lt)
  have HB := Lib.hid (HB0.trans (BX.mono HB0.size))
  have H := Lib.hid h
  have HQ := Lib.hid hp
  have HL := Lib.hid hL
  have HN := Lib.hid hn
  have HTT := Lib.hid hT
  have HPL := Lib.hid hpl
  have HTC := Lib.hid (fun (W : World) (k : IRow W A l) => (by
    have := trainCount_any l A c L hL (valid_ok hpl.val).2.1 W k
    rw [hTI] at this
    exact this : Calls Try.prog 74 #[.slice A L c] W fun e w' => e = .returned (.int .i64 (T : Int)) ∧ Below W.heap.size W w'))
  clear h hp HJ0 HP0 HB0 hL hn hT hpl BX htc hTI
  obtain ⟨b0, hb0⟩ : ∃ b, b = w.heap.size := ⟨_, rfl⟩
  go_enter Try.func50, Try.ntmps50
  go_upto_region 1 with fail
  rw [← hb0] at HJ HP HR HSZ ⊢
  have HB00 := Lib.hid hb0
  generalize ((w.alloc (.cells #[.slice A L c, .int .i64 wt] 39)).alloc (.cells #[.int .i64 (S : Int), .slice pA n pc] 24)).alloc (.cells #[.slice none 0 0, .slice none 0 0, .slice none 0 0, .slice none 0 0, .int .i64 0, .int .i64 0] 88) = w1 at *
  clear hb0
  go_cut [7] from 9 to 20 (fun mp wx => ∃ b gs gt base, mp = .pointer (some ⟨b, 0, none⟩) ∧ Hid (MStart w1 wx b A L c pA n pc gs S gt T base))
  case first =>
    obtain ⟨q0, e0⟩ : ∃ q, q = w1.drew := ⟨_, rfl⟩
    have HB0 := Lib.hid (show Below w1.heap.size w1 q0 by rw [e0]; exact ⟨rfl, rfl, rfl, Nat.le_refl _, fun _ _ => rfl⟩)
    have HSS := Lib.hid (show ∀ W, Below w1.heap.size w1 W → W.cell? ⟨b0, 0, none⟩ = some (.slice A L c) ∧ W.cell? ⟨b0 + 1, 0, none⟩ = some (.int .i64 (S : Int)) ∧ W.cell? ⟨b0 + 1, 1, none⟩ = some (.slice pA n pc) from fun W k =>
      ⟨(k.cell (p := ⟨b0, 0, none⟩) HJ.out.lt).trans HJ.out.c0, (k.cell (p := ⟨b0 + 1, 0, none⟩) HP.out.lt).trans HP.out.c0, (k.cell (p := ⟨b0 + 1, 1, none⟩) HP.out.lt).trans HP.out.c1⟩)
    have F0 := HSS.out q0 HB0.out
    have HE0 := Lib.hid e0
    have hmkS := fun W => make_listsN W S (by omega)
    have hmkT := fun W => make_listsN W T (by omega)
    have HIR := Lib.hid (fun (W : World) (k : Below w1.heap.size w1 W) => H.out.below (HB.out.trans (k.mono HB.out.size)))
    clear e0
    refine AnyT.begin_at (tlGe 13) (fun X => X.cell? ⟨b0, 0, none⟩ = some (.slice A L c) ∧ X.cell? ⟨b0 + 1, 0, none⟩ = some (.int .i64 (S : Int)) ∧ X.cell? ⟨b0 + 1, 1, none⟩ = some (.slice pA n pc)) (by kernel_rfl) HE0.out F0 ?_
    clear F0
    intro F0
-- TAKES T1
    refine AnyT.takeD (i := 0) (d := some 9) (v := .pointer (some ⟨b0, 0, none⟩)) rfl rfl (by kernel_rfl) (by kernel_rfl) (by kernel_rfl) (by kernel_rfl) (fun _ _ _ h => h) (Or.inl ⟨by rfl, fun wz _ => by go_simp⟩) F0 ?_
    simp only [Act.put, List.setIfInBounds_toArray, List.set_cons_zero, List.set_cons_succ]
    refine AnyT.takeD (i := 1) (d := some 10) (v := .slice A L c) rfl rfl (by kernel_rfl) (by kernel_rfl) (by kernel_rfl) (by kernel_rfl) (fun _ _ _ h => h) (Or.inl ⟨by rfl, fun wz hz => by obtain ⟨z0, z1, z2⟩ := hz; go_simp⟩) F0 ?_
    simp only [Act.put, List.setIfInBounds_toArray, List.set_cons_zero, List.set_cons_succ]
    refine AnyT.takeD (i := 2) (d := some 11) (v := .pointer (some ⟨b0 + 1, 1, none⟩)) rfl rfl (by kernel_rfl) (by kernel_rfl) (by kernel_rfl) (by kernel_rfl) (fun _ _ _ h => h) (Or.inl ⟨by rfl, fun wz _ => by go_simp⟩) F0 ?_
    simp only [Act.put, List.setIfInBounds_toArray, List.set_cons_zero, List.set_cons_succ]
    refine AnyT.takeD (i := 3) (d := some 12) (v := .slice pA n pc) rfl rfl (by kernel_rfl) (by kernel_rfl) (by kernel_rfl) (by kernel_rfl) (fun _ _ _ h => h) (Or.inl ⟨by rfl, fun wz hz => by obtain ⟨z0, z1, z2⟩ := hz; go_simp⟩) F0 ?_
    simp only [Act.put, List.setIfInBounds_toArray, List.set_cons_zero, List.set_cons_succ]
    refine AnyT.takeD (i := 4) (d := some 13) (v := .pointer (some ⟨b0 + 1, 0, none⟩)) rfl rfl (by kernel_rfl) (by kernel_rfl) (by kernel_rfl) (by kernel_rfl) (fun _ _ _ h => h) (Or.inl ⟨by rfl, fun wz _ => by go_simp⟩) F0 ?_
    simp only [Act.put, List.setIfInBounds_toArray, List.set_cons_zero, List.set_cons_succ]
    refine AnyT.takeD (i := 5) (d := some 14) (v := .int .i64 (S : Int)) rfl rfl (by kernel_rfl) (by kernel_rfl) (by kernel_rfl) (by kernel_rfl) (fun _ _ _ h => h) (Or.inl ⟨by rfl, fun wz hz => by obtain ⟨z0, z1, z2⟩ := hz; go_simp⟩) F0 ?_
    simp only [Act.put, List.setIfInBounds_toArray, List.set_cons_zero, List.set_cons_succ]
    refine AnyT.takeD (i := 7) (d := some 16) (v := .pointer (some ⟨b0, 0, none⟩)) rfl rfl (by kernel_rfl) (by kernel_rfl) (by kernel_rfl) (by kernel_rfl) (fun _ _ _ h => h) (Or.inl ⟨by rfl, fun wz _ => by go_simp⟩) F0 ?_
    simp only [Act.put, List.setIfInBounds_toArray, List.set_cons_zero, List.set_cons_succ]
    refine AnyT.takeD (i := 8) (d := some 17) (v := .slice A L c) rfl rfl (by kernel_rfl) (by kernel_rfl) (by kernel_rfl) (by kernel_rfl) (fun _ _ _ h => h) (Or.inl ⟨by rfl, fun wz hz => by obtain ⟨z0, z1, z2⟩ := hz; go_simp⟩) F0 ?_
    simp only [Act.put, List.setIfInBounds_toArray, List.set_cons_zero, List.set_cons_succ]
    refine AnyT.branch (rs := [6, 9, 12]) (by kernel_rfl) (by simp) ?_
    refine (all_cons ?_ (all_cons ?_ (all_cons ?_ all_nil)))
    · obtain ⟨q1, e1⟩ : ∃ q, q = q0.alloc (.cells (List.replicate S (Value.slice none 0 0)).toArray 22) := ⟨_, rfl⟩
      have HB1 := Lib.hid (show Below w1.heap.size w1 q1 by rw [e1]; exact HB0.out.alloc HB0.out.size _)
      have HU1 := Lib.hid (show Below q0.heap.size q0 q1 by rw [e1]; exact (Below.refl _ _).alloc (Nat.le_refl _) _)
      have HGM1 := Lib.hid (Got.new HB0.out e1)
      refine AnyT.yield (i := 6) (d := some 15) (v := .slice (some ⟨q0.heap.size, 0, none⟩) S S) (w' := q1) rfl rfl rfl (by rw [e1]; go_simp) (fun _ => HSS.out q1 HB1.out) ?_
      clear e1
      simp only [Act.put, List.setIfInBounds_toArray, List.set_cons_zero, List.set_cons_succ]
      refine AnyT.branch (rs := [9, 12]) (by kernel_rfl) (by simp) ?_
      refine (all_cons ?_ (all_cons ?_ all_nil))
      · refine AnyT.enter (i := 9) (d := some 18) (f := 74) (args := #[.slice A L c]) rfl rfl rfl (by have F1 := HSS.out q1 HB1.out; obtain ⟨z0, z1, z2⟩ := F1; go_simp) (HTC.out q1 (HIR.out q1 HB1.out)) ?_
        rintro e q2 ⟨rfl, bz⟩
        have HB2 := Lib.hid (HB1.out.trans (bz.mono HB1.out.size))
        have HGM2 := Lib.hid (HGM1.out.below bz)
        clear bz
        refine ⟨_, rfl, fun _ => HSS.out q2 HB2.out, ?_⟩
        simp only [Act.put, List.setIfInBounds_toArray, List.set_cons_zero, List.set_cons_succ]
        refine AnyT.branch (rs := [10, 12]) (by kernel_rfl) (by simp) ?_
        refine (all_cons ?_ (all_cons ?_ all_nil))
        · obtain ⟨q3, e3⟩ : ∃ q, q = q2.alloc (.cells (List.replicate T (Value.slice none 0 0)).toArray 22) := ⟨_, rfl⟩
          have HB3 := Lib.hid (show Below w1.heap.size w1 q3 by rw [e3]; exact HB2.out.alloc HB2.out.size _)
          have HU3 := Lib.hid (show Below q2.heap.size q2 q3 by rw [e3]; exact (Below.refl _ _).alloc (Nat.le_refl _) _)
          have HGM23 := Lib.hid (Got.new HB2.out e3)
          have HGM3 := Lib.hid (HGM2.out.below HU3.out)
          refine AnyT.yield (i := 10) (d := some 19) (v := .slice (some ⟨q2.heap.size, 0, none⟩) T T) (w' := q3) rfl rfl rfl (by rw [e3]; go_simp) (fun _ => HSS.out q3 HB3.out) ?_
          clear e3
          simp only [Act.put, List.setIfInBounds_toArray, List.set_cons_zero, List.set_cons_succ]
          have F3 := HSS.out q3 HB3.out
          refine AnyT.takeD (i := 11) (d := some 20) (v := mvv A L c pA n pc q0.heap.size S q2.heap.size T 0 0) rfl rfl (by kernel_rfl) (by kernel_rfl) (by kernel_rfl) (by kernel_rfl) (fun _ _ _ h => h) (Or.inl ⟨by rfl, fun wz _ => by go_simp⟩) F3 ?_
          simp only [Act.put, List.setIfInBounds_toArray, List.set_cons_zero, List.set_cons_succ]
          clear F3
          refine AnyT.branch (rs := [12]) (by kernel_rfl) (by simp) ?_
          refine (all_cons ?_ all_nil)
          · obtain ⟨q4, e4⟩ : ∃ q, q = q3.alloc (.cells #[.slice none 0 0, .slice none 0 0, .slice none 0 0, .slice none 0 0, .int .i64 0, .int .i64 0] 88) := ⟨_, rfl⟩
            have HB4 := Lib.hid (show Below w1.heap.size w1 q4 by rw [e4]; exact HB3.out.alloc HB3.out.size _)
            have HU4 := Lib.hid (show Below q3.heap.size q3 q4 by rw [e4]; exact (Below.refl _ _).alloc (Nat.le_refl _) _)
            have HGAL4 := Lib.hid (Got.new HB3.out e4)
            have HGM4 := Lib.hid (HGM3.out.below HU4.out)
            have HGM24 := Lib.hid (HGM23.out.below HU4.out)
            refine AnyT.yield (i := 12) (d := some 7) (v := .pointer (some ⟨q3.heap.size, 0, none⟩)) (w' := q4) rfl rfl rfl (by rw [e4]; go_simp) (fun _ => HSS.out q4 HB4.out) ?_
            clear e4
            simp only [Act.put, List.setIfInBounds_toArray, List.set_cons_zero, List.set_cons_succ]
            have HFN := Lib.hid (mach_new HGM4.out HGM24.out HGAL4.out (Nat.ne_of_lt HGM2.out.lt) (Nat.ne_of_lt HGM3.out.lt) (Nat.ne_of_lt HGM23.out.lt) HB4.out A L c pA n pc)
            obtain ⟨⟨x0, x1, x2, x3, x4, x5⟩, xf⟩ := zero6 HGAL4.out.at_
            have xf0 := xf 0
            have xf1 := xf 1
            have xf2 := xf 2
            have xf3 := xf 3
            have xf4 := xf 4
            have xf5 := xf 5
            clear xf
            refine AnyT.branch (rs := [13]) (by kernel_rfl) (by simp) ?_
            refine all_cons (?_) all_nil
            refine AnyT.step (i := 13) rfl (fun KK hK => ?_)
            go_simp
            refine hK.out _ _ (fun h => absurd h (by decide)) ?_
            clear hK KK x0 x1 x2 x3 x4 x5 xf0 xf1 xf2 xf3 xf4 xf5
            refine AnyT.done_ (by kernel_rfl) ?_ _
            go_wp2_with fail
            go_meet
            case rel => exact ⟨_, _, _, _, rfl, HFN⟩
        · obtain ⟨q3, e3⟩ : ∃ q, q = q2.alloc (.cells #[.slice none 0 0, .slice none 0 0, .slice none 0 0, .slice none 0 0, .int .i64 0, .int .i64 0] 88) := ⟨_, rfl⟩
          have HB3 := Lib.hid (show Below w1.heap.size w1 q3 by rw [e3]; exact HB2.out.alloc HB2.out.size _)
          have HU3 := Lib.hid (show Below q2.heap.size q2 q3 by rw [e3]; exact (Below.refl _ _).alloc (Nat.le_refl _) _)
          have HGAL3 := Lib.hid (Got.new HB2.out e3)
          have HGM3 := Lib.hid (HGM2.out.below HU3.out)
          refine AnyT.yield (i := 12) (d := some 7) (v := .pointer (some ⟨q2.heap.size, 0, none⟩)) (w' := q3) rfl rfl rfl (by rw [e3]; go_simp) (fun _ => HSS.out q3 HB3.out) ?_
          clear e3
          simp only [Act.put, List.setIfInBounds_toArray, List.set_cons_zero, List.set_cons_succ]
          refine AnyT.branch (rs := [10]) (by kernel_rfl) (by simp) ?_
          refine (all_cons ?_ all_nil)
          · obtain ⟨q4, e4⟩ : ∃ q, q = q3.alloc (.cells (List.replicate T (Value.slice none 0 0)).toArray 22) := ⟨_, rfl⟩
            have HB4 := Lib.hid (show Below w1.heap.size w1 q4 by rw [e4]; exact HB3.out.alloc HB3.out.size _)
            have HU4 := Lib.hid (show Below q3.heap.size q3 q4 by rw [e4]; exact (Below.refl _ _).alloc (Nat.le_refl _) _)
            have HGM24 := Lib.hid (Got.new HB3.out e4)
            have HGM4 := Lib.hid (HGM3.out.below HU4.out)
            have HGAL4 := Lib.hid (HGAL3.out.below HU4.out)
            refine AnyT.yield (i := 10) (d := some 19) (v := .slice (some ⟨q3.heap.size, 0, none⟩) T T) (w' := q4) rfl rfl rfl (by rw [e4]; go_simp) (fun _ => HSS.out q4 HB4.out) ?_
            clear e4
            simp only [Act.put, List.setIfInBounds_toArray, List.set_cons_zero, List.set_cons_succ]
            have F4 := HSS.out q4 HB4.out
            refine AnyT.takeD (i := 11) (d := some 20) (v := mvv A L c pA n pc q0.heap.size S q3.heap.size T 0 0) rfl rfl (by kernel_rfl) (by kernel_rfl) (by kernel_rfl) (by kernel_rfl) (fun _ _ _ h => h) (Or.inl ⟨by rfl, fun wz _ => by go_simp⟩) F4 ?_
            simp only [Act.put, List.setIfInBounds_toArray, List.set_cons_zero, List.set_cons_succ]
            clear F4
            have HFN := Lib.hid (mach_new HGM4.out HGM24.out HGAL4.out (Nat.ne_of_lt HGM3.out.lt) (Nat.ne_of_lt HGM2.out.lt) (Nat.ne_of_gt HGAL3.out.lt) HB4.out A L c pA n pc)
            obtain ⟨⟨x0, x1, x2, x3, x4, x5⟩, xf⟩ := zero6 HGAL4.out.at_
            have xf0 := xf 0
            have xf1 := xf 1
            have xf2 := xf 2
            have xf3 := xf 3
            have xf4 := xf 4
            have xf5 := xf 5
            clear xf
            refine AnyT.branch (rs := [13]) (by kernel_rfl) (by simp) ?_
            refine all_cons (?_) all_nil
            refine AnyT.step (i := 13) rfl (fun KK hK => ?_)
            go_simp
            refine hK.out _ _ (fun h => absurd h (by decide)) ?_
            clear hK KK x0 x1 x2 x3 x4 x5 xf0 xf1 xf2 xf3 xf4 xf5
            refine AnyT.done_ (by kernel_rfl) ?_ _
            go_wp2_with fail
            go_meet
            case rel => exact ⟨_, _, _, _, rfl, HFN⟩
      · obtain ⟨q2, e2⟩ : ∃ q, q = q1.alloc (.cells #[.slice none 0 0, .slice none 0 0, .slice none 0 0, .slice none 0 0, .int .i64 0, .int .i64 0] 88) := ⟨_, rfl⟩
        have HB2 := Lib.hid (show Below w1.heap.size w1 q2 by rw [e2]; exact HB1.out.alloc HB1.out.size _)
        have HU2 := Lib.hid (show Below q1.heap.size q1 q2 by rw [e2]; exact (Below.refl _ _).alloc (Nat.le_refl _) _)
        have HGAL2 := Lib.hid (Got.new HB1.out e2)
        have HGM2 := Lib.hid (HGM1.out.below HU2.out)
        refine AnyT.yield (i := 12) (d := some 7) (v := .pointer (some ⟨q1.heap.size, 0, none⟩)) (w' := q2) rfl rfl rfl (by rw [e2]; go_simp) (fun _ => HSS.out q2 HB2.out) ?_
        clear e2
        simp only [Act.put, List.setIfInBounds_toArray, List.set_cons_zero, List.set_cons_succ]
        refine AnyT.branch (rs := [9]) (by kernel_rfl) (by simp) ?_
        refine (all_cons ?_ all_nil)
        · refine AnyT.enter (i := 9) (d := some 18) (f := 74) (args := #[.slice A L c]) rfl rfl rfl (by have F2 := HSS.out q2 HB2.out; obtain ⟨z0, z1, z2⟩ := F2; go_simp) (HTC.out q2 (HIR.out q2 HB2.out)) ?_
          rintro e q3 ⟨rfl, bz⟩
          have HB3 := Lib.hid (HB2.out.trans (bz.mono HB2.out.size))
          have HGM3 := Lib.hid (HGM2.out.below bz)
          have HGAL3 := Lib.hid (HGAL2.out.below bz)
          clear bz
          refine ⟨_, rfl, fun _ => HSS.out q3 HB3.out, ?_⟩
          simp only [Act.put, List.setIfInBounds_toArray, List.set_cons_zero, List.set_cons_succ]
          refine AnyT.branch (rs := [10]) (by kernel_rfl) (by simp) ?_
          refine (all_cons ?_ all_nil)
          · obtain ⟨q4, e4⟩ : ∃ q, q = q3.alloc (.cells (List.replicate T (Value.slice none 0 0)).toArray 22) := ⟨_, rfl⟩
            have HB4 := Lib.hid (show Below w1.heap.size w1 q4 by rw [e4]; exact HB3.out.alloc HB3.out.size _)
            have HU4 := Lib.hid (show Below q3.heap.size q3 q4 by rw [e4]; exact (Below.refl _ _).alloc (Nat.le_refl _) _)
            have HGM24 := Lib.hid (Got.new HB3.out e4)
            have HGM4 := Lib.hid (HGM3.out.below HU4.out)
            have HGAL4 := Lib.hid (HGAL3.out.below HU4.out)
            refine AnyT.yield (i := 10) (d := some 19) (v := .slice (some ⟨q3.heap.size, 0, none⟩) T T) (w' := q4) rfl rfl rfl (by rw [e4]; go_simp) (fun _ => HSS.out q4 HB4.out) ?_
            clear e4
            simp only [Act.put, List.setIfInBounds_toArray, List.set_cons_zero, List.set_cons_succ]
            have F4 := HSS.out q4 HB4.out
            refine AnyT.takeD (i := 11) (d := some 20) (v := mvv A L c pA n pc q0.heap.size S q3.heap.size T 0 0) rfl rfl (by kernel_rfl) (by kernel_rfl) (by kernel_rfl) (by kernel_rfl) (fun _ _ _ h => h) (Or.inl ⟨by rfl, fun wz _ => by go_simp⟩) F4 ?_
            simp only [Act.put, List.setIfInBounds_toArray, List.set_cons_zero, List.set_cons_succ]
            clear F4
            have HFN := Lib.hid (mach_new HGM4.out HGM24.out HGAL4.out (Nat.ne_of_lt HGM3.out.lt) (Nat.ne_of_lt HGM1.out.lt) (Nat.ne_of_gt HGAL3.out.lt) HB4.out A L c pA n pc)
            obtain ⟨⟨x0, x1, x2, x3, x4, x5⟩, xf⟩ := zero6 HGAL4.out.at_
            have xf0 := xf 0
            have xf1 := xf 1
            have xf2 := xf 2
            have xf3 := xf 3
            have xf4 := xf 4
            have xf5 := xf 5
            clear xf
            refine AnyT.branch (rs := [13]) (by kernel_rfl) (by simp) ?_
            refine all_cons (?_) all_nil
            refine AnyT.step (i := 13) rfl (fun KK hK => ?_)
            go_simp
            refine hK.out _ _ (fun h => absurd h (by decide)) ?_
            clear hK KK x0 x1 x2 x3 x4 x5 xf0 xf1 xf2 xf3 xf4 xf5
            refine AnyT.done_ (by kernel_rfl) ?_ _
            go_wp2_with fail
            go_meet
            case rel => exact ⟨_, _, _, _, rfl, HFN⟩
    · refine AnyT.enter (i := 9) (d := some 18) (f := 74) (args := #[.slice A L c]) rfl rfl rfl (by have F0 := HSS.out q0 HB0.out; obtain ⟨z0, z1, z2⟩ := F0; go_simp) (HTC.out q0 (HIR.out q0 HB0.out)) ?_
      rintro e q1 ⟨rfl, bz⟩
      have HB1 := Lib.hid (HB0.out.trans (bz.mono HB0.out.size))
      clear bz
      refine ⟨_, rfl, fun _ => HSS.out q1 HB1.out, ?_⟩
      simp only [Act.put, List.setIfInBounds_toArray, List.set_cons_zero, List.set_cons_succ]
      refine AnyT.branch (rs := [6, 10, 12]) (by kernel_rfl) (by simp) ?_
      refine (all_cons ?_ (all_cons ?_ (all_cons ?_ all_nil)))
      · obtain ⟨q2, e2⟩ : ∃ q, q = q1.alloc (.cells (List.replicate S (Value.slice none 0 0)).toArray 22) := ⟨_, rfl⟩
        have HB2 := Lib.hid (show Below w1.heap.size w1 q2 by rw [e2]; exact HB1.out.alloc HB1.out.size _)
        have HU2 := Lib.hid (show Below q1.heap.size q1 q2 by rw [e2]; exact (Below.refl _ _).alloc (Nat.le_refl _) _)
        have HGM2 := Lib.hid (Got.new HB1.out e2)
        refine AnyT.yield (i := 6) (d := some 15) (v := .slice (some ⟨q1.heap.size, 0, none⟩) S S) (w' := q2) rfl rfl rfl (by rw [e2]; go_simp) (fun _ => HSS.out q2 HB2.out) ?_
        clear e2
        simp only [Act.put, List.setIfInBounds_toArray, List.set_cons_zero, List.set_cons_succ]
        refine AnyT.branch (rs := [10, 12]) (by kernel_rfl) (by simp) ?_
        refine (all_cons ?_ (all_cons ?_ all_nil))
        · obtain ⟨q3, e3⟩ : ∃ q, q = q2.alloc (.cells (List.replicate T (Value.slice none 0 0)).toArray 22) := ⟨_, rfl⟩
          have HB3 := Lib.hid (show Below w1.heap.size w1 q3 by rw [e3]; exact HB2.out.alloc HB2.out.size _)
          have HU3 := Lib.hid (show Below q2.heap.size q2 q3 by rw [e3]; exact (Below.refl _ _).alloc (Nat.le_refl _) _)
          have HGM23 := Lib.hid (Got.new HB2.out e3)
          have HGM3 := Lib.hid (HGM2.out.below HU3.out)
          refine AnyT.yield (i := 10) (d := some 19) (v := .slice (some ⟨q2.heap.size, 0, none⟩) T T) (w' := q3) rfl rfl rfl (by rw [e3]; go_simp) (fun _ => HSS.out q3 HB3.out) ?_
          clear e3
          simp only [Act.put, List.setIfInBounds_toArray, List.set_cons_zero, List.set_cons_succ]
          have F3 := HSS.out q3 HB3.out
          refine AnyT.takeD (i := 11) (d := some 20) (v := mvv A L c pA n pc q1.heap.size S q2.heap.size T 0 0) rfl rfl (by kernel_rfl) (by kernel_rfl) (by kernel_rfl) (by kernel_rfl) (fun _ _ _ h => h) (Or.inl ⟨by rfl, fun wz _ => by go_simp⟩) F3 ?_
          simp only [Act.put, List.setIfInBounds_toArray, List.set_cons_zero, List.set_cons_succ]
          clear F3
          refine AnyT.branch (rs := [12]) (by kernel_rfl) (by simp) ?_
          refine (all_cons ?_ all_nil)
          · obtain ⟨q4, e4⟩ : ∃ q, q = q3.alloc (.cells #[.slice none 0 0, .slice none 0 0, .slice none 0 0, .slice none 0 0, .int .i64 0, .int .i64 0] 88) := ⟨_, rfl⟩
            have HB4 := Lib.hid (show Below w1.heap.size w1 q4 by rw [e4]; exact HB3.out.alloc HB3.out.size _)
            have HU4 := Lib.hid (show Below q3.heap.size q3 q4 by rw [e4]; exact (Below.refl _ _).alloc (Nat.le_refl _) _)
            have HGAL4 := Lib.hid (Got.new HB3.out e4)
            have HGM4 := Lib.hid (HGM3.out.below HU4.out)
            have HGM24 := Lib.hid (HGM23.out.below HU4.out)
            refine AnyT.yield (i := 12) (d := some 7) (v := .pointer (some ⟨q3.heap.size, 0, none⟩)) (w' := q4) rfl rfl rfl (by rw [e4]; go_simp) (fun _ => HSS.out q4 HB4.out) ?_
            clear e4
            simp only [Act.put, List.setIfInBounds_toArray, List.set_cons_zero, List.set_cons_succ]
            have HFN := Lib.hid (mach_new HGM4.out HGM24.out HGAL4.out (Nat.ne_of_lt HGM2.out.lt) (Nat.ne_of_lt HGM3.out.lt) (Nat.ne_of_lt HGM23.out.lt) HB4.out A L c pA n pc)
            obtain ⟨⟨x0, x1, x2, x3, x4, x5⟩, xf⟩ := zero6 HGAL4.out.at_
            have xf0 := xf 0
            have xf1 := xf 1
            have xf2 := xf 2
            have xf3 := xf 3
            have xf4 := xf 4
            have xf5 := xf 5
            clear xf
            refine AnyT.branch (rs := [13]) (by kernel_rfl) (by simp) ?_
            refine all_cons (?_) all_nil
            refine AnyT.step (i := 13) rfl (fun KK hK => ?_)
            go_simp
            refine hK.out _ _ (fun h => absurd h (by decide)) ?_
            clear hK KK x0 x1 x2 x3 x4 x5 xf0 xf1 xf2 xf3 xf4 xf5
            refine AnyT.done_ (by kernel_rfl) ?_ _
            go_wp2_with fail
            go_meet
            case rel => exact ⟨_, _, _, _, rfl, HFN⟩
        · obtain ⟨q3, e3⟩ : ∃ q, q = q2.alloc (.cells #[.slice none 0 0, .slice none 0 0, .slice none 0 0, .slice none 0 0, .int .i64 0, .int .i64 0] 88) := ⟨_, rfl⟩
          have HB3 := Lib.hid (show Below w1.heap.size w1 q3 by rw [e3]; exact HB2.out.alloc HB2.out.size _)
          have HU3 := Lib.hid (show Below q2.heap.size q2 q3 by rw [e3]; exact (Below.refl _ _).alloc (Nat.le_refl _) _)
          have HGAL3 := Lib.hid (Got.new HB2.out e3)
          have HGM3 := Lib.hid (HGM2.out.below HU3.out)
          refine AnyT.yield (i := 12) (d := some 7) (v := .pointer (some ⟨q2.heap.size, 0, none⟩)) (w' := q3) rfl rfl rfl (by rw [e3]; go_simp) (fun _ => HSS.out q3 HB3.out) ?_
          clear e3
          simp only [Act.put, List.setIfInBounds_toArray, List.set_cons_zero, List.set_cons_succ]
          refine AnyT.branch (rs := [10]) (by kernel_rfl) (by simp) ?_
          refine (all_cons ?_ all_nil)
          · obtain ⟨q4, e4⟩ : ∃ q, q = q3.alloc (.cells (List.replicate T (Value.slice none 0 0)).toArray 22) := ⟨_, rfl⟩
            have HB4 := Lib.hid (show Below w1.heap.size w1 q4 by rw [e4]; exact HB3.out.alloc HB3.out.size _)
            have HU4 := Lib.hid (show Below q3.heap.size q3 q4 by rw [e4]; exact (Below.refl _ _).alloc (Nat.le_refl _) _)
            have HGM24 := Lib.hid (Got.new HB3.out e4)
            have HGM4 := Lib.hid (HGM3.out.below HU4.out)
            have HGAL4 := Lib.hid (HGAL3.out.below HU4.out)
            refine AnyT.yield (i := 10) (d := some 19) (v := .slice (some ⟨q3.heap.size, 0, none⟩) T T) (w' := q4) rfl rfl rfl (by rw [e4]; go_simp) (fun _ => HSS.out q4 HB4.out) ?_
            clear e4
            simp only [Act.put, List.setIfInBounds_toArray, List.set_cons_zero, List.set_cons_succ]
            have F4 := HSS.out q4 HB4.out
            refine AnyT.takeD (i := 11) (d := some 20) (v := mvv A L c pA n pc q1.heap.size S q3.heap.size T 0 0) rfl rfl (by kernel_rfl) (by kernel_rfl) (by kernel_rfl) (by kernel_rfl) (fun _ _ _ h => h) (Or.inl ⟨by rfl, fun wz _ => by go_simp⟩) F4 ?_
            simp only [Act.put, List.setIfInBounds_toArray, List.set_cons_zero, List.set_cons_succ]
            clear F4
            have HFN := Lib.hid (mach_new HGM4.out HGM24.out HGAL4.out (Nat.ne_of_lt HGM3.out.lt) (Nat.ne_of_lt HGM2.out.lt) (Nat.ne_of_gt HGAL3.out.lt) HB4.out A L c pA n pc)
            obtain ⟨⟨x0, x1, x2, x3, x4, x5⟩, xf⟩ := zero6 HGAL4.out.at_
            have xf0 := xf 0
            have xf1 := xf 1
            have xf2 := xf 2
            have xf3 := xf 3
            have xf4 := xf 4
            have xf5 := xf 5
            clear xf
            refine AnyT.branch (rs := [13]) (by kernel_rfl) (by simp) ?_
            refine all_cons (?_) all_nil
            refine AnyT.step (i := 13) rfl (fun KK hK => ?_)
            go_simp
            refine hK.out _ _ (fun h => absurd h (by decide)) ?_
            clear hK KK x0 x1 x2 x3 x4 x5 xf0 xf1 xf2 xf3 xf4 xf5
            refine AnyT.done_ (by kernel_rfl) ?_ _
            go_wp2_with fail
            go_meet
            case rel => exact ⟨_, _, _, _, rfl, HFN⟩
      · obtain ⟨q2, e2⟩ : ∃ q, q = q1.alloc (.cells (List.replicate T (Value.slice none 0 0)).toArray 22) := ⟨_, rfl⟩
        have HB2 := Lib.hid (show Below w1.heap.size w1 q2 by rw [e2]; exact HB1.out.alloc HB1.out.size _)
        have HU2 := Lib.hid (show Below q1.heap.size q1 q2 by rw [e2]; exact (Below.refl _ _).alloc (Nat.le_refl _) _)
        have HGM22 := Lib.hid (Got.new HB1.out e2)
        refine AnyT.yield (i := 10) (d := some 19) (v := .slice (some ⟨q1.heap.size, 0, none⟩) T T) (w' := q2) rfl rfl rfl (by rw [e2]; go_simp) (fun _ => HSS.out q2 HB2.out) ?_
        clear e2
        simp only [Act.put, List.setIfInBounds_toArray, List.set_cons_zero, List.set_cons_succ]
        refine AnyT.branch (rs := [6, 12]) (by kernel_rfl) (by simp) ?_
        refine (all_cons ?_ (all_cons ?_ all_nil))
        · obtain ⟨q3, e3⟩ : ∃ q, q = q2.alloc (.cells (List.replicate S (Value.slice none 0 0)).toArray 22) := ⟨_, rfl⟩
          have HB3 := Lib.hid (show Below w1.heap.size w1 q3 by rw [e3]; exact HB2.out.alloc HB2.out.size _)
          have HU3 := Lib.hid (show Below q2.heap.size q2 q3 by rw [e3]; exact (Below.refl _ _).alloc (Nat.le_refl _) _)
          have HGM3 := Lib.hid (Got.new HB2.out e3)
          have HGM23 := Lib.hid (HGM22.out.below HU3.out)
          refine AnyT.yield (i := 6) (d := some 15) (v := .slice (some ⟨q2.heap.size, 0, none⟩) S S) (w' := q3) rfl rfl rfl (by rw [e3]; go_simp) (fun _ => HSS.out q3 HB3.out) ?_
          clear e3
          simp only [Act.put, List.setIfInBounds_toArray, List.set_cons_zero, List.set_cons_succ]
          have F3 := HSS.out q3 HB3.out
          refine AnyT.takeD (i := 11) (d := some 20) (v := mvv A L c pA n pc q2.heap.size S q1.heap.size T 0 0) rfl rfl (by kernel_rfl) (by kernel_rfl) (by kernel_rfl) (by kernel_rfl) (fun _ _ _ h => h) (Or.inl ⟨by rfl, fun wz _ => by go_simp⟩) F3 ?_
          simp only [Act.put, List.setIfInBounds_toArray, List.set_cons_zero, List.set_cons_succ]
          clear F3
          refine AnyT.branch (rs := [12]) (by kernel_rfl) (by simp) ?_
          refine (all_cons ?_ all_nil)
          · obtain ⟨q4, e4⟩ : ∃ q, q = q3.alloc (.cells #[.slice none 0 0, .slice none 0 0, .slice none 0 0, .slice none 0 0, .int .i64 0, .int .i64 0] 88) := ⟨_, rfl⟩
            have HB4 := Lib.hid (show Below w1.heap.size w1 q4 by rw [e4]; exact HB3.out.alloc HB3.out.size _)
            have HU4 := Lib.hid (show Below q3.heap.size q3 q4 by rw [e4]; exact (Below.refl _ _).alloc (Nat.le_refl _) _)
            have HGAL4 := Lib.hid (Got.new HB3.out e4)
            have HGM24 := Lib.hid (HGM23.out.below HU4.out)
            have HGM4 := Lib.hid (HGM3.out.below HU4.out)
            refine AnyT.yield (i := 12) (d := some 7) (v := .pointer (some ⟨q3.heap.size, 0, none⟩)) (w' := q4) rfl rfl rfl (by rw [e4]; go_simp) (fun _ => HSS.out q4 HB4.out) ?_
            clear e4
            simp only [Act.put, List.setIfInBounds_toArray, List.set_cons_zero, List.set_cons_succ]
            have HFN := Lib.hid (mach_new HGM4.out HGM24.out HGAL4.out (Nat.ne_of_gt HGM22.out.lt) (Nat.ne_of_lt HGM3.out.lt) (Nat.ne_of_lt HGM23.out.lt) HB4.out A L c pA n pc)
            obtain ⟨⟨x0, x1, x2, x3, x4, x5⟩, xf⟩ := zero6 HGAL4.out.at_
            have xf0 := xf 0
            have xf1 := xf 1
            have xf2 := xf 2
            have xf3 := xf 3
            have xf4 := xf 4
            have xf5 := xf 5
            clear xf
            refine AnyT.branch (rs := [13]) (by kernel_rfl) (by simp) ?_
            refine all_cons (?_) all_nil
            refine AnyT.step (i := 13) rfl (fun KK hK => ?_)
            go_simp
            refine hK.out _ _ (fun h => absurd h (by decide)) ?_
            clear hK KK x0 x1 x2 x3 x4 x5 xf0 xf1 xf2 xf3 xf4 xf5
            refine AnyT.done_ (by kernel_rfl) ?_ _
            go_wp2_with fail
            go_meet
            case rel => exact ⟨_, _, _, _, rfl, HFN⟩
        · obtain ⟨q3, e3⟩ : ∃ q, q = q2.alloc (.cells #[.slice none 0 0, .slice none 0 0, .slice none 0 0, .slice none 0 0, .int .i64 0, .int .i64 0] 88) := ⟨_, rfl⟩
          have HB3 := Lib.hid (show Below w1.heap.size w1 q3 by rw [e3]; exact HB2.out.alloc HB2.out.size _)
          have HU3 := Lib.hid (show Below q2.heap.size q2 q3 by rw [e3]; exact (Below.refl _ _).alloc (Nat.le_refl _) _)
          have HGAL3 := Lib.hid (Got.new HB2.out e3)
          have HGM23 := Lib.hid (HGM22.out.below HU3.out)
          refine AnyT.yield (i := 12) (d := some 7) (v := .pointer (some ⟨q2.heap.size, 0, none⟩)) (w' := q3) rfl rfl rfl (by rw [e3]; go_simp) (fun _ => HSS.out q3 HB3.out) ?_
          clear e3
          simp only [Act.put, List.setIfInBounds_toArray, List.set_cons_zero, List.set_cons_succ]
          refine AnyT.branch (rs := [6]) (by kernel_rfl) (by simp) ?_
          refine (all_cons ?_ all_nil)
          · obtain ⟨q4, e4⟩ : ∃ q, q = q3.alloc (.cells (List.replicate S (Value.slice none 0 0)).toArray 22) := ⟨_, rfl⟩
            have HB4 := Lib.hid (show Below w1.heap.size w1 q4 by rw [e4]; exact HB3.out.alloc HB3.out.size _)
            have HU4 := Lib.hid (show Below q3.heap.size q3 q4 by rw [e4]; exact (Below.refl _ _).alloc (Nat.le_refl _) _)
            have HGM4 := Lib.hid (Got.new HB3.out e4)
            have HGM24 := Lib.hid (HGM23.out.below HU4.out)
            have HGAL4 := Lib.hid (HGAL3.out.below HU4.out)
            refine AnyT.yield (i := 6) (d := some 15) (v := .slice (some ⟨q3.heap.size, 0, none⟩) S S) (w' := q4) rfl rfl rfl (by rw [e4]; go_simp) (fun _ => HSS.out q4 HB4.out) ?_
            clear e4
            simp only [Act.put, List.setIfInBounds_toArray, List.set_cons_zero, List.set_cons_succ]
            have F4 := HSS.out q4 HB4.out
            refine AnyT.takeD (i := 11) (d := some 20) (v := mvv A L c pA n pc q3.heap.size S q1.heap.size T 0 0) rfl rfl (by kernel_rfl) (by kernel_rfl) (by kernel_rfl) (by kernel_rfl) (fun _ _ _ h => h) (Or.inl ⟨by rfl, fun wz _ => by go_simp⟩) F4 ?_
            simp only [Act.put, List.setIfInBounds_toArray, List.set_cons_zero, List.set_cons_succ]
            clear F4
            have HFN := Lib.hid (mach_new HGM4.out HGM24.out HGAL4.out (Nat.ne_of_gt HGM23.out.lt) (Nat.ne_of_gt HGAL3.out.lt) (Nat.ne_of_lt HGM22.out.lt) HB4.out A L c pA n pc)
            obtain ⟨⟨x0, x1, x2, x3, x4, x5⟩, xf⟩ := zero6 HGAL4.out.at_
            have xf0 := xf 0
            have xf1 := xf 1
            have xf2 := xf 2
            have xf3 := xf 3
            have xf4 := xf 4
            have xf5 := xf 5
            clear xf
            refine AnyT.branch (rs := [13]) (by kernel_rfl) (by simp) ?_
            refine all_cons (?_) all_nil
            refine AnyT.step (i := 13) rfl (fun KK hK => ?_)
            go_simp
            refine hK.out _ _ (fun h => absurd h (by decide)) ?_
            clear hK KK x0 x1 x2 x3 x4 x5 xf0 xf1 xf2 xf3 xf4 xf5
            refine AnyT.done_ (by kernel_rfl) ?_ _
            go_wp2_with fail
            go_meet
            case rel => exact ⟨_, _, _, _, rfl, HFN⟩
      · obtain ⟨q2, e2⟩ : ∃ q, q = q1.alloc (.cells #[.slice none 0 0, .slice none 0 0, .slice none 0 0, .slice none 0 0, .int .i64 0, .int .i64 0] 88) := ⟨_, rfl⟩
        have HB2 := Lib.hid (show Below w1.heap.size w1 q2 by rw [e2]; exact HB1.out.alloc HB1.out.size _)
        have HU2 := Lib.hid (show Below q1.heap.size q1 q2 by rw [e2]; exact (Below.refl _ _).alloc (Nat.le_refl _) _)
        have HGAL2 := Lib.hid (Got.new HB1.out e2)
        refine AnyT.yield (i := 12) (d := some 7) (v := .pointer (some ⟨q1.heap.size, 0, none⟩)) (w' := q2) rfl rfl rfl (by rw [e2]; go_simp) (fun _ => HSS.out q2 HB2.out) ?_
        clear e2
        simp only [Act.put, List.setIfInBounds_toArray, List.set_cons_zero, List.set_cons_succ]
        refine AnyT.branch (rs := [6, 10]) (by kernel_rfl) (by simp) ?_
        refine (all_cons ?_ (all_cons ?_ all_nil))
        · obtain ⟨q3, e3⟩ : ∃ q, q = q2.alloc (.cells (List.replicate S (Value.slice none 0 0)).toArray 22) := ⟨_, rfl⟩
          have HB3 := Lib.hid (show Below w1.heap.size w1 q3 by rw [e3]; exact HB2.out.alloc HB2.out.size _)
          have HU3 := Lib.hid (show Below q2.heap.size q2 q3 by rw [e3]; exact (Below.refl _ _).alloc (Nat.le_refl _) _)
          have HGM3 := Lib.hid (Got.new HB2.out e3)
          have HGAL3 := Lib.hid (HGAL2.out.below HU3.out)
          refine AnyT.yield (i := 6) (d := some 15) (v := .slice (some ⟨q2.heap.size, 0, none⟩) S S) (w' := q3) rfl rfl rfl (by rw [e3]; go_simp) (fun _ => HSS.out q3 HB3.out) ?_
          clear e3
          simp only [Act.put, List.setIfInBounds_toArray, List.set_cons_zero, List.set_cons_succ]
          refine AnyT.branch (rs := [10]) (by kernel_rfl) (by simp) ?_
          refine (all_cons ?_ all_nil)
          · obtain ⟨q4, e4⟩ : ∃ q, q = q3.alloc (.cells (List.replicate T (Value.slice none 0 0)).toArray 22) := ⟨_, rfl⟩
            have HB4 := Lib.hid (show Below w1.heap.size w1 q4 by rw [e4]; exact HB3.out.alloc HB3.out.size _)
            have HU4 := Lib.hid (show Below q3.heap.size q3 q4 by rw [e4]; exact (Below.refl _ _).alloc (Nat.le_refl _) _)
            have HGM24 := Lib.hid (Got.new HB3.out e4)
            have HGAL4 := Lib.hid (HGAL3.out.below HU4.out)
            have HGM4 := Lib.hid (HGM3.out.below HU4.out)
            refine AnyT.yield (i := 10) (d := some 19) (v := .slice (some ⟨q3.heap.size, 0, none⟩) T T) (w' := q4) rfl rfl rfl (by rw [e4]; go_simp) (fun _ => HSS.out q4 HB4.out) ?_
            clear e4
            simp only [Act.put, List.setIfInBounds_toArray, List.set_cons_zero, List.set_cons_succ]
            have F4 := HSS.out q4 HB4.out
            refine AnyT.takeD (i := 11) (d := some 20) (v := mvv A L c pA n pc q2.heap.size S q3.heap.size T 0 0) rfl rfl (by kernel_rfl) (by kernel_rfl) (by kernel_rfl) (by kernel_rfl) (fun _ _ _ h => h) (Or.inl ⟨by rfl, fun wz _ => by go_simp⟩) F4 ?_
            simp only [Act.put, List.setIfInBounds_toArray, List.set_cons_zero, List.set_cons_succ]
            clear F4
            have HFN := Lib.hid (mach_new HGM4.out HGM24.out HGAL4.out (Nat.ne_of_lt HGM3.out.lt) (Nat.ne_of_gt HGAL2.out.lt) (Nat.ne_of_gt HGAL3.out.lt) HB4.out A L c pA n pc)
            obtain ⟨⟨x0, x1, x2, x3, x4, x5⟩, xf⟩ := zero6 HGAL4.out.at_
            have xf0 := xf 0
            have xf1 := xf 1
            have xf2 := xf 2
            have xf3 := xf 3
            have xf4 := xf 4
            have xf5 := xf 5
            clear xf
            refine AnyT.branch (rs := [13]) (by kernel_rfl) (by simp) ?_
            refine all_cons (?_) all_nil
            refine AnyT.step (i := 13) rfl (fun KK hK => ?_)
            go_simp
            refine hK.out _ _ (fun h => absurd h (by decide)) ?_
            clear hK KK x0 x1 x2 x3 x4 x5 xf0 xf1 xf2 xf3 xf4 xf5
            refine AnyT.done_ (by kernel_rfl) ?_ _
            go_wp2_with fail
            go_meet
            case rel => exact ⟨_, _, _, _, rfl, HFN⟩
        · obtain ⟨q3, e3⟩ : ∃ q, q = q2.alloc (.cells (List.replicate T (Value.slice none 0 0)).toArray 22) := ⟨_, rfl⟩
          have HB3 := Lib.hid (show Below w1.heap.size w1 q3 by rw [e3]; exact HB2.out.alloc HB2.out.size _)
          have HU3 := Lib.hid (show Below q2.heap.size q2 q3 by rw [e3]; exact (Below.refl _ _).alloc (Nat.le_refl _) _)
          have HGM23 := Lib.hid (Got.new HB2.out e3)
          have HGAL3 := Lib.hid (HGAL2.out.below HU3.out)
          refine AnyT.yield (i := 10) (d := some 19) (v := .slice (some ⟨q2.heap.size, 0, none⟩) T T) (w' := q3) rfl rfl rfl (by rw [e3]; go_simp) (fun _ => HSS.out q3 HB3.out) ?_
          clear e3
          simp only [Act.put, List.setIfInBounds_toArray, List.set_cons_zero, List.set_cons_succ]
          refine AnyT.branch (rs := [6]) (by kernel_rfl) (by simp) ?_
          refine (all_cons ?_ all_nil)
          · obtain ⟨q4, e4⟩ : ∃ q, q = q3.alloc (.cells (List.replicate S (Value.slice none 0 0)).toArray 22) := ⟨_, rfl⟩
            have HB4 := Lib.hid (show Below w1.heap.size w1 q4 by rw [e4]; exact HB3.out.alloc HB3.out.size _)
            have HU4 := Lib.hid (show Below q3.heap.size q3 q4 by rw [e4]; exact (Below.refl _ _).alloc (Nat.le_refl _) _)
            have HGM4 := Lib.hid (Got.new HB3.out e4)
            have HGAL4 := Lib.hid (HGAL3.out.below HU4.out)
            have HGM24 := Lib.hid (HGM23.out.below HU4.out)
            refine AnyT.yield (i := 6) (d := some 15) (v := .slice (some ⟨q3.heap.size, 0, none⟩) S S) (w' := q4) rfl rfl rfl (by rw [e4]; go_simp) (fun _ => HSS.out q4 HB4.out) ?_
            clear e4
            simp only [Act.put, List.setIfInBounds_toArray, List.set_cons_zero, List.set_cons_succ]
            have F4 := HSS.out q4 HB4.out
            refine AnyT.takeD (i := 11) (d := some 20) (v := mvv A L c pA n pc q3.heap.size S q2.heap.size T 0 0) rfl rfl (by kernel_rfl) (by kernel_rfl) (by kernel_rfl) (by kernel_rfl) (fun _ _ _ h => h) (Or.inl ⟨by rfl, fun wz _ => by go_simp⟩) F4 ?_
            simp only [Act.put, List.setIfInBounds_toArray, List.set_cons_zero, List.set_cons_succ]
            clear F4
            have HFN := Lib.hid (mach_new HGM4.out HGM24.out HGAL4.out (Nat.ne_of_gt HGM23.out.lt) (Nat.ne_of_gt HGAL3.out.lt) (Nat.ne_of_gt HGAL2.out.lt) HB4.out A L c pA n pc)
            obtain ⟨⟨x0, x1, x2, x3, x4, x5⟩, xf⟩ := zero6 HGAL4.out.at_
            have xf0 := xf 0
            have xf1 := xf 1
            have xf2 := xf 2
            have xf3 := xf 3
            have xf4 := xf 4
            have xf5 := xf 5
            clear xf
            refine AnyT.branch (rs := [13]) (by kernel_rfl) (by simp) ?_
            refine all_cons (?_) all_nil
            refine AnyT.step (i := 13) rfl (fun KK hK => ?_)
            go_simp
            refine hK.out _ _ (fun h => absurd h (by decide)) ?_
            clear hK KK x0 x1 x2 x3 x4 x5 xf0 xf1 xf2 xf3 xf4 xf5
            refine AnyT.done_ (by kernel_rfl) ?_ _
            go_wp2_with fail
            go_meet
            case rel => exact ⟨_, _, _, _, rfl, HFN⟩
    · obtain ⟨q1, e1⟩ : ∃ q, q = q0.alloc (.cells #[.slice none 0 0, .slice none 0 0, .slice none 0 0, .slice none 0 0, .int .i64 0, .int .i64 0] 88) := ⟨_, rfl⟩
      have HB1 := Lib.hid (show Below w1.heap.size w1 q1 by rw [e1]; exact HB0.out.alloc HB0.out.size _)
      have HU1 := Lib.hid (show Below q0.heap.size q0 q1 by rw [e1]; exact (Below.refl _ _).alloc (Nat.le_refl _) _)
      have HGAL1 := Lib.hid (Got.new HB0.out e1)
      refine AnyT.yield (i := 12) (d := some 7) (v := .pointer (some ⟨q0.heap.size, 0, none⟩)) (w' := q1) rfl rfl rfl (by rw [e1]; go_simp) (fun _ => HSS.out q1 HB1.out) ?_
      clear e1
      simp only [Act.put, List.setIfInBounds_toArray, List.set_cons_zero, List.set_cons_succ]
      refine AnyT.branch (rs := [6, 9]) (by kernel_rfl) (by simp) ?_
      refine (all_cons ?_ (all_cons ?_ all_nil))
      · obtain ⟨q2, e2⟩ : ∃ q, q = q1.alloc (.cells (List.replicate S (Value.slice none 0 0)).toArray 22) := ⟨_, rfl⟩
        have HB2 := Lib.hid (show Below w1.heap.size w1 q2 by rw [e2]; exact HB1.out.alloc HB1.out.size _)
        have HU2 := Lib.hid (show Below q1.heap.size q1 q2 by rw [e2]; exact (Below.refl _ _).alloc (Nat.le_refl _) _)
        have HGM2 := Lib.hid (Got.new HB1.out e2)
        have HGAL2 := Lib.hid (HGAL1.out.below HU2.out)
        refine AnyT.yield (i := 6) (d := some 15) (v := .slice (some ⟨q1.heap.size, 0, none⟩) S S) (w' := q2) rfl rfl rfl (by rw [e2]; go_simp) (fun _ => HSS.out q2 HB2.out) ?_
        clear e2
        simp only [Act.put, List.setIfInBounds_toArray, List.set_cons_zero, List.set_cons_succ]
        refine AnyT.branch (rs := [9]) (by kernel_rfl) (by simp) ?_
        refine (all_cons ?_ all_nil)
        · refine AnyT.enter (i := 9) (d := some 18) (f := 74) (args := #[.slice A L c]) rfl rfl rfl (by have F2 := HSS.out q2 HB2.out; obtain ⟨z0, z1, z2⟩ := F2; go_simp) (HTC.out q2 (HIR.out q2 HB2.out)) ?_
          rintro e q3 ⟨rfl, bz⟩
          have HB3 := Lib.hid (HB2.out.trans (bz.mono HB2.out.size))
          have HGAL3 := Lib.hid (HGAL2.out.below bz)
          have HGM3 := Lib.hid (HGM2.out.below bz)
          clear bz
          refine ⟨_, rfl, fun _ => HSS.out q3 HB3.out, ?_⟩
          simp only [Act.put, List.setIfInBounds_toArray, List.set_cons_zero, List.set_cons_succ]
          refine AnyT.branch (rs := [10]) (by kernel_rfl) (by simp) ?_
          refine (all_cons ?_ all_nil)
          · obtain ⟨q4, e4⟩ : ∃ q, q = q3.alloc (.cells (List.replicate T (Value.slice none 0 0)).toArray 22) := ⟨_, rfl⟩
            have HB4 := Lib.hid (show Below w1.heap.size w1 q4 by rw [e4]; exact HB3.out.alloc HB3.out.size _)
            have HU4 := Lib.hid (show Below q3.heap.size q3 q4 by rw [e4]; exact (Below.refl _ _).alloc (Nat.le_refl _) _)
            have HGM24 := Lib.hid (Got.new HB3.out e4)
            have HGAL4 := Lib.hid (HGAL3.out.below HU4.out)
            have HGM4 := Lib.hid (HGM3.out.below HU4.out)
            refine AnyT.yield (i := 10) (d := some 19) (v := .slice (some ⟨q3.heap.size, 0, none⟩) T T) (w' := q4) rfl rfl rfl (by rw [e4]; go_simp) (fun _ => HSS.out q4 HB4.out) ?_
            clear e4
            simp only [Act.put, List.setIfInBounds_toArray, List.set_cons_zero, List.set_cons_succ]
            have F4 := HSS.out q4 HB4.out
            refine AnyT.takeD (i := 11) (d := some 20) (v := mvv A L c pA n pc q1.heap.size S q3.heap.size T 0 0) rfl rfl (by kernel_rfl) (by kernel_rfl) (by kernel_rfl) (by kernel_rfl) (fun _ _ _ h => h) (Or.inl ⟨by rfl, fun wz _ => by go_simp⟩) F4 ?_
            simp only [Act.put, List.setIfInBounds_toArray, List.set_cons_zero, List.set_cons_succ]
            clear F4
            have HFN := Lib.hid (mach_new HGM4.out HGM24.out HGAL4.out (Nat.ne_of_lt HGM3.out.lt) (Nat.ne_of_gt HGAL1.out.lt) (Nat.ne_of_gt HGAL3.out.lt) HB4.out A L c pA n pc)
            obtain ⟨⟨x0, x1, x2, x3, x4, x5⟩, xf⟩ := zero6 HGAL4.out.at_
            have xf0 := xf 0
            have xf1 := xf 1
            have xf2 := xf 2
            have xf3 := xf 3
            have xf4 := xf 4
            have xf5 := xf 5
            clear xf
            refine AnyT.branch (rs := [13]) (by kernel_rfl) (by simp) ?_
            refine all_cons (?_) all_nil
            refine AnyT.step (i := 13) rfl (fun KK hK => ?_)
            go_simp
            refine hK.out _ _ (fun h => absurd h (by decide)) ?_
            clear hK KK x0 x1 x2 x3 x4 x5 xf0 xf1 xf2 xf3 xf4 xf5
            refine AnyT.done_ (by kernel_rfl) ?_ _
            go_wp2_with fail
            go_meet
            case rel => exact ⟨_, _, _, _, rfl, HFN⟩
      · refine AnyT.enter (i := 9) (d := some 18) (f := 74) (args := #[.slice A L c]) rfl rfl rfl (by have F1 := HSS.out q1 HB1.out; obtain ⟨z0, z1, z2⟩ := F1; go_simp) (HTC.out q1 (HIR.out q1 HB1.out)) ?_
        rintro e q2 ⟨rfl, bz⟩
        have HB2 := Lib.hid (HB1.out.trans (bz.mono HB1.out.size))
        have HGAL2 := Lib.hid (HGAL1.out.below bz)
        clear bz
        refine ⟨_, rfl, fun _ => HSS.out q2 HB2.out, ?_⟩
        simp only [Act.put, List.setIfInBounds_toArray, List.set_cons_zero, List.set_cons_succ]
        refine AnyT.branch (rs := [6, 10]) (by kernel_rfl) (by simp) ?_
        refine (all_cons ?_ (all_cons ?_ all_nil))
        · obtain ⟨q3, e3⟩ : ∃ q, q = q2.alloc (.cells (List.replicate S (Value.slice none 0 0)).toArray 22) := ⟨_, rfl⟩
          have HB3 := Lib.hid (show Below w1.heap.size w1 q3 by rw [e3]; exact HB2.out.alloc HB2.out.size _)
          have HU3 := Lib.hid (show Below q2.heap.size q2 q3 by rw [e3]; exact (Below.refl _ _).alloc (Nat.le_refl _) _)
          have HGM3 := Lib.hid (Got.new HB2.out e3)
          have HGAL3 := Lib.hid (HGAL2.out.below HU3.out)
          refine AnyT.yield (i := 6) (d := some 15) (v := .slice (some ⟨q2.heap.size, 0, none⟩) S S) (w' := q3) rfl rfl rfl (by rw [e3]; go_simp) (fun _ => HSS.out q3 HB3.out) ?_
          clear e3
          simp only [Act.put, List.setIfInBounds_toArray, List.set_cons_zero, List.set_cons_succ]
          refine AnyT.branch (rs := [10]) (by kernel_rfl) (by simp) ?_
          refine (all_cons ?_ all_nil)
          · obtain ⟨q4, e4⟩ : ∃ q, q = q3.alloc (.cells (List.replicate T (Value.slice none 0 0)).toArray 22) := ⟨_, rfl⟩
            have HB4 := Lib.hid (show Below w1.heap.size w1 q4 by rw [e4]; exact HB3.out.alloc HB3.out.size _)
            have HU4 := Lib.hid (show Below q3.heap.size q3 q4 by rw [e4]; exact (Below.refl _ _).alloc (Nat.le_refl _) _)
            have HGM24 := Lib.hid (Got.new HB3.out e4)
            have HGAL4 := Lib.hid (HGAL3.out.below HU4.out)
            have HGM4 := Lib.hid (HGM3.out.below HU4.out)
            refine AnyT.yield (i := 10) (d := some 19) (v := .slice (some ⟨q3.heap.size, 0, none⟩) T T) (w' := q4) rfl rfl rfl (by rw [e4]; go_simp) (fun _ => HSS.out q4 HB4.out) ?_
            clear e4
            simp only [Act.put, List.setIfInBounds_toArray, List.set_cons_zero, List.set_cons_succ]
            have F4 := HSS.out q4 HB4.out
            refine AnyT.takeD (i := 11) (d := some 20) (v := mvv A L c pA n pc q2.heap.size S q3.heap.size T 0 0) rfl rfl (by kernel_rfl) (by kernel_rfl) (by kernel_rfl) (by kernel_rfl) (fun _ _ _ h => h) (Or.inl ⟨by rfl, fun wz _ => by go_simp⟩) F4 ?_
            simp only [Act.put, List.setIfInBounds_toArray, List.set_cons_zero, List.set_cons_succ]
            clear F4
            have HFN := Lib.hid (mach_new HGM4.out HGM24.out HGAL4.out (Nat.ne_of_lt HGM3.out.lt) (Nat.ne_of_gt HGAL2.out.lt) (Nat.ne_of_gt HGAL3.out.lt) HB4.out A L c pA n pc)
            obtain ⟨⟨x0, x1, x2, x3, x4, x5⟩, xf⟩ := zero6 HGAL4.out.at_
            have xf0 := xf 0
            have xf1 := xf 1
            have xf2 := xf 2
            have xf3 := xf 3
            have xf4 := xf 4
            have xf5 := xf 5
            clear xf
            refine AnyT.branch (rs := [13]) (by kernel_rfl) (by simp) ?_
            refine all_cons (?_) all_nil
            refine AnyT.step (i := 13) rfl (fun KK hK => ?_)
            go_simp
            refine hK.out _ _ (fun h => absurd h (by decide)) ?_
            clear hK KK x0 x1 x2 x3 x4 x5 xf0 xf1 xf2 xf3 xf4 xf5
            refine AnyT.done_ (by kernel_rfl) ?_ _
            go_wp2_with fail
            go_meet
            case rel => exact ⟨_, _, _, _, rfl, HFN⟩
        · obtain ⟨q3, e3⟩ : ∃ q, q = q2.alloc (.cells (List.replicate T (Value.slice none 0 0)).toArray 22) := ⟨_, rfl⟩
          have HB3 := Lib.hid (show Below w1.heap.size w1 q3 by rw [e3]; exact HB2.out.alloc HB2.out.size _)
          have HU3 := Lib.hid (show Below q2.heap.size q2 q3 by rw [e3]; exact (Below.refl _ _).alloc (Nat.le_refl _) _)
          have HGM23 := Lib.hid (Got.new HB2.out e3)
          have HGAL3 := Lib.hid (HGAL2.out.below HU3.out)
          refine AnyT.yield (i := 10) (d := some 19) (v := .slice (some ⟨q2.heap.size, 0, none⟩) T T) (w' := q3) rfl rfl rfl (by rw [e3]; go_simp) (fun _ => HSS.out q3 HB3.out) ?_
          clear e3
          simp only [Act.put, List.setIfInBounds_toArray, List.set_cons_zero, List.set_cons_succ]
          refine AnyT.branch (rs := [6]) (by kernel_rfl) (by simp) ?_
          refine (all_cons ?_ all_nil)
          · obtain ⟨q4, e4⟩ : ∃ q, q = q3.alloc (.cells (List.replicate S (Value.slice none 0 0)).toArray 22) := ⟨_, rfl⟩
            have HB4 := Lib.hid (show Below w1.heap.size w1 q4 by rw [e4]; exact HB3.out.alloc HB3.out.size _)
            have HU4 := Lib.hid (show Below q3.heap.size q3 q4 by rw [e4]; exact (Below.refl _ _).alloc (Nat.le_refl _) _)
            have HGM4 := Lib.hid (Got.new HB3.out e4)
            have HGAL4 := Lib.hid (HGAL3.out.below HU4.out)
            have HGM24 := Lib.hid (HGM23.out.below HU4.out)
            refine AnyT.yield (i := 6) (d := some 15) (v := .slice (some ⟨q3.heap.size, 0, none⟩) S S) (w' := q4) rfl rfl rfl (by rw [e4]; go_simp) (fun _ => HSS.out q4 HB4.out) ?_
            clear e4
            simp only [Act.put, List.setIfInBounds_toArray, List.set_cons_zero, List.set_cons_succ]
            have F4 := HSS.out q4 HB4.out
            refine AnyT.takeD (i := 11) (d := some 20) (v := mvv A L c pA n pc q3.heap.size S q2.heap.size T 0 0) rfl rfl (by kernel_rfl) (by kernel_rfl) (by kernel_rfl) (by kernel_rfl) (fun _ _ _ h => h) (Or.inl ⟨by rfl, fun wz _ => by go_simp⟩) F4 ?_
            simp only [Act.put, List.setIfInBounds_toArray, List.set_cons_zero, List.set_cons_succ]
            clear F4
            have HFN := Lib.hid (mach_new HGM4.out HGM24.out HGAL4.out (Nat.ne_of_gt HGM23.out.lt) (Nat.ne_of_gt HGAL3.out.lt) (Nat.ne_of_gt HGAL2.out.lt) HB4.out A L c pA n pc)
            obtain ⟨⟨x0, x1, x2, x3, x4, x5⟩, xf⟩ := zero6 HGAL4.out.at_
            have xf0 := xf 0
            have xf1 := xf 1
            have xf2 := xf 2
            have xf3 := xf 3
            have xf4 := xf 4
            have xf5 := xf 5
            clear xf
            refine AnyT.branch (rs := [13]) (by kernel_rfl) (by simp) ?_
            refine all_cons (?_) all_nil
            refine AnyT.step (i := 13) rfl (fun KK hK => ?_)
            go_simp
            refine hK.out _ _ (fun h => absurd h (by decide)) ?_
            clear hK KK x0 x1 x2 x3 x4 x5 xf0 xf1 xf2 xf3 xf4 xf5
            refine AnyT.done_ (by kernel_rfl) ?_ _
            go_wp2_with fail
            go_meet
            case rel => exact ⟨_, _, _, _, rfl, HFN⟩
    -- TAKEN T1
  case rest =>
    obtain ⟨b, gs, gt, base, rfl, hms⟩ := hcut
    have hs := hms.out
    have M0 := Lib.hid (show MB wc b A L c pA n pc gs S gt T (mM S l.length (cdN v) (rdN l) 0 : Int) (mP S l.length (cdN v) (rdN l) 0 : Int) from hs.box)
    have T0 := Lib.hid (show Two (fun k => k < w1.heap.size ∨ k = b) wc gs gt base (mS S l.length (cdN v) (rdN l) 0) (mT S l.length T (cdN v) (rdN l) (tnN l) 0) from hs.two)
    have K0 := Lib.hid hs.bel
    have HLE := Lib.hid hs.le
    have HRW := Lib.hid (show Row .i64 w1 w1.heap.size A (flatI l) ∧ Row .i64 w1 w1.heap.size pA v from ⟨(H.out.below HB.out).row, HQ.out.below HB.out⟩)
    clear hs hms
    go_wp2_with fail
    go_loopw [23] (fun iv wr => ∃ t : Nat, t ≤ last + 1 ∧ iv = .int .i64 (t : Int) ∧ Hid (MB wr b A L c pA n pc gs S gt T (mM S l.length (cdN v) (rdN l) t : Int) (mP S l.length (cdN v) (rdN l) t : Int)) ∧ Hid (Two (fun k => k < w1.heap.size ∨ k = b) wr gs gt base (mS S l.length (cdN v) (rdN l) t) (mT S l.length T (cdN v) (rdN l) (tnN l) t)) ∧ Hid (Below w1.heap.size w1 wr)) (fun iv _ => last + 1 - (intOf iv).toNat)
    case atStart => exact ⟨0, by omega, rfl, M0, T0, K0⟩
    case round =>
      clear M0 T0 K0
      obtain ⟨t, ht, rfl, M, Z, K⟩ := hrel
      by_cases hlt : t < last + 1
      · have hti : (t : Int) < (last : Int) + 1 := by omega
        have HPU := Lib.hid (push_any (fun k => k < w1.heap.size ∨ k = b) l wt S v HPL.out A c L HL.out pA n pc gs gt T base b t w1.heap.size wr (fun k hk => Or.inl hk) (HRW.out.1.under K.out) (HRW.out.2.under K.out) HN.out M.out Z.out (Or.inr rfl) HTT.out (by omega))
        go_wp2_with fail
        refine HPU.out.mono ?_
        rintro e w2 ⟨rfl, hpp⟩
        have HZ2 := Lib.hid hpp.1
        have HM2 := Lib.hid hpp.2.1
        have HK2 := Lib.hid (K.out.trans (hpp.2.2.below (B := w1.heap.size) (fun i hi => ⟨Or.inl hi, by have := HLE.out.2.2; omega⟩)))
        clear HPU hpp M Z K
        go_wp2_with fail
        go_roundw
        case rel => exact ⟨t + 1, by omega, by go_num, HM2, HZ2, HK2⟩
        case measure => simp [intOf]; omega
      · have htl : t = last + 1 := by omega
        subst htl
        have hni : ¬ (last : Int) + 1 < (last : Int) + 1 := by omega
        obtain ⟨rr, hrr⟩ : ∃ r, r = b0 + 2 := ⟨_, rfl⟩
        rw [← hrr] at HR ⊢
        have hrl : rr < w1.heap.size := by rw [HSZ.out]; omega
        have HRC := Lib.hid (show (wr.cell? ⟨rr, 0, none⟩ = some (.slice none 0 0) ∧ wr.cell? ⟨rr, 1, none⟩ = some (.slice none 0 0) ∧ wr.cell? ⟨rr, 2, none⟩ = some (.slice none 0 0) ∧ wr.cell? ⟨rr, 3, none⟩ = some (.slice none 0 0) ∧ wr.cell? ⟨rr, 4, none⟩ = some (.int .i64 0) ∧ wr.cell? ⟨rr, 5, none⟩ = some (.int .i64 0)) ∧ ∀ j, wr.frozen? ⟨rr, j, none⟩ = false by
          obtain ⟨⟨z0, z1, z2, z3, z4, z5⟩, zf⟩ := HR.out
          exact ⟨⟨(K.out.cell (p := ⟨rr, 0, none⟩) hrl).trans z0, (K.out.cell (p := ⟨rr, 1, none⟩) hrl).trans z1, (K.out.cell (p := ⟨rr, 2, none⟩) hrl).trans z2, (K.out.cell (p := ⟨rr, 3, none⟩) hrl).trans z3, (K.out.cell (p := ⟨rr, 4, none⟩) hrl).trans z4, (K.out.cell (p := ⟨rr, 5, none⟩) hrl).trans z5⟩, fun j => (K.out.frozen (p := ⟨rr, j, none⟩) hrl).trans (zf j)⟩)
        obtain ⟨mv, hmv⟩ : ∃ x, x = (mM S l.length (cdN v) (rdN l) (last + 1) : Int) := ⟨_, rfl⟩
        obtain ⟨pu, hpu⟩ : ∃ x, x = (mP S l.length (cdN v) (rdN l) (last + 1) : Int) := ⟨_, rfl⟩
        rw [← hmv, ← hpu] at M
        have HMV := Lib.hid hmv
        have HPU := Lib.hid hpu
        have HRR := Lib.hid hrr
        obtain ⟨m0, m1, m2, m3, m4, m5, mf, mlt⟩ := M.out
        obtain ⟨⟨z0, z1, z2, z3, z4, z5⟩, zf⟩ := HRC.out
        have zf0 := zf 0
        have zf1 := zf 1
        have zf2 := zf 2
        have zf3 := zf 3
        have zf4 := zf 4
        have zf5 := zf 5
        have HW := Lib.hid (put6_cells z0 z1 z2 z3 z4 z5 (.slice A L c) (.slice pA n pc) (.slice (some ⟨gs, 0, none⟩) S S) (.slice (some ⟨gt, 0, none⟩) T T) (.int .i64 mv) (.int .i64 pu))
        have HZF := Lib.hid (show Two (fun k => k < w1.heap.size) (put6 wr rr (.slice A L c) (.slice pA n pc) (.slice (some ⟨gs, 0, none⟩) S S) (.slice (some ⟨gt, 0, none⟩) T T) (.int .i64 mv) (.int .i64 pu)) gs gt base _ _ from
          ((((((Z.out.weak (G := fun k => k < w1.heap.size) (fun i hi => Or.inl hi)).setF (p := ⟨rr, 0, none⟩) hrl _).setF (p := ⟨rr, 1, none⟩) hrl _).setF (p := ⟨rr, 2, none⟩) hrl _).setF (p := ⟨rr, 3, none⟩) hrl _).setF (p := ⟨rr, 4, none⟩) hrl _).setF (p := ⟨rr, 5, none⟩) hrl _)
        have HBF := Lib.hid (put6_below (HB.out.trans (K.out.mono HB.out.size)) (b := rr) (by have := HRR.out; have := HB00.out; omega) (.slice A L c) (.slice pA n pc) (.slice (some ⟨gs, 0, none⟩) S S) (.slice (some ⟨gt, 0, none⟩) T T) (.int .i64 mv) (.int .i64 pu))
        clear hmv hpu hrr zf mf M Z K hlt ht
        go_wp2_with fail
        obtain ⟨y0, y1, y2, y3, y4, y5⟩ := HW.out
        refine bodyPost_ret (results_mach rfl _ _ rr _ _ _ _ _ _ rfl y0 y1 y2 y3 y4 y5) rfl ?_
        refine ⟨gs, gt, base, by rw [← HMV.out, ← HPU.out], HZF.out.weak (fun i hi => Nat.lt_of_lt_of_le hi HB.out.size), HBF.out, Nat.le_trans HB.out.size HLE.out.1, Nat.le_trans HB.out.size HLE.out.2.1⟩
end Go.Proofs.Ytlagadbkencpbaa

namespace Go.Proofs.Ytlagadbkencpbaa
open Go.RowKit Go.Lib

theorem val14_zero {l : List It} {wt st : Int} {v : List Int} (h : val14 l wt st v = 0) : ∃ S : Nat, st = (S : Int) ∧ Pl l wt S v := by
  unfold val14 at h
  by_cases h1 : validR l wt = 0
  · rw [if_pos h1] at h
    by_cases h2 : fitB l wt st v = true
    · have := (fitB_iff.1 h2).1
      obtain ⟨S, rfl⟩ := Int.eq_ofNat_of_zero_le this.1
      exact ⟨S, rfl, h1, h2⟩
    · rw [if_neg h2] at h; omega
  · rw [if_neg h1] at h; exact absurd h h1
theorem Pl.val14 {l : List It} {wt : Int} {S : Nat} {v : List Int} (h : Pl l wt S v) : val14 l wt (S : Int) v = 0 := by
  unfold Go.Proofs.Ytlagadbkencpbaa.val14; rw [if_pos h.val, if_pos h.fit]
/-- The error of Contents. -/
def contE (l : List It) (wt st : Int) (v : List Int) (t : Int) : Int := if val14 l wt st v = 0 then (if t < 0 ∨ st < t then 2 else 0) else val14 l wt st v
/-- Two results that are lists of lists of the call's own. -/
structure Cont (l : List It) (S : Nat) (v : List Int) (t : Nat) (w w' : World) (gs gt base : Nat) : Prop where
  two : Two (fun k => k < w.heap.size) w' gs gt base (mS S l.length (cdN v) (rdN l) (t + 1)) (mT S l.length (tnT l) (cdN v) (rdN l) (tnN l) (t + 1))
  bel : Below w.heap.size w w'
  le : w.heap.size ≤ gs ∧ w.heap.size ≤ gt
def ContPost (l : List It) (wt st : Int) (v : List Int) (t : Int) (w : World) (e : Ending) (w' : World) : Prop :=
  (contE l wt st v t ≠ 0 ∧ e = .returned (.tuple #[.slice none 0 0, .slice none 0 0, .int .i64 (contE l wt st v t)]) ∧ Below w.heap.size w w') ∨
  (contE l wt st v t = 0 ∧ ∃ S n gs gt base, st = ((S : Nat) : Int) ∧ t = ((n : Nat) : Int) ∧ n ≤ S ∧ Pl l wt S v ∧ e = .returned (.tuple #[.slice (some ⟨gs, 0, none⟩) S S, .slice (some ⟨gt, 0, none⟩) (tnT l) (tnT l), .int .i64 0]) ∧ Cont l S v n w w' gs gt base)
/-- What Run leaves: the tracks of the trains, the moves, and the error. -/
structure RunL (l : List It) (S : Nat) (v : List Int) (w w' : World) (gt : Nat) : Prop where
  pp : PP w' (some ⟨gt, 0, none⟩) ((mT S l.length (tnT l) (cdN v) (rdN l) (tnN l) (S + 1)).map toZ)
  bel : Below w.heap.size w w'
  le : w.heap.size ≤ gt ∧ gt < w'.heap.size
abbrev srtv (A : Option Addr) (n c : Nat) (mv : Int) : Value := .agg #[.slice A n c, .int .i64 mv]
def RunPost (l : List It) (wt st : Int) (v : List Int) (w : World) (e : Ending) (w' : World) : Prop :=
  (val14 l wt st v ≠ 0 ∧ e = .returned (.tuple #[srtv none 0 0 0, .int .i64 (val14 l wt st v)]) ∧ Below w.heap.size w w') ∨
  (val14 l wt st v = 0 ∧ ∃ S gt, st = ((S : Nat) : Int) ∧ Pl l wt S v ∧ e = .returned (.tuple #[srtv (some ⟨gt, 0, none⟩) (tnT l) (tnT l) (mM S l.length (cdN v) (rdN l) (S + 1) : Int), .int .i64 0]) ∧ RunL l S v w w' gt)
theorem results_srt {fn : Func} (hf : fn.results = #[.cell 4 54, .tmp 5]) (tmps : Array Value) (w : World) (b : Nat) (A : Option Addr) (n c : Nat) (mv er : Int) (h2 : tmps.getD 4 undef = .pointer (some ⟨b, 0, none⟩)) (h3 : tmps.getD 5 undef = .int .i64 er) (c0 : w.cell? ⟨b, 0, none⟩ = some (.slice A n c)) (c1 : w.cell? ⟨b, 1, none⟩ = some (.int .i64 mv)) :
    (results fn tmps).run Try.prog w = .ok (.tuple #[srtv A n c mv, .int .i64 er]) w := by
  have h2' : tmps[4]?.getD undef = .pointer (some ⟨b, 0, none⟩) := by simpa using h2
  have h3' : tmps[5]?.getD undef = .int .i64 er := by simpa using h3
  simp [results, hf, go_sem, h2', h3', c0, c1, asAddr]
theorem PP.setB {w : World} {A : Option Addr} {ps : List (List Int)} {B : Nat} (h : PP w A ps) {p : Addr} (hp : p.block < B) (hA : ∀ ad, A = some ad → B ≤ ad.block) (hr : ∀ (k : Nat) q, ps[k]? = some q → ∀ ad, A = some ad → ∀ a c, w.cell? (ad.add k) = some (.slice a q.length c) → ∀ x, a = some x → B ≤ x.block) (u : Value) : PP (w.setCell p u) A ps := fun k q hk => by
  obtain ⟨ad, rfl, hb, a, c, hc, hrr, hm⟩ := h k q hk
  have ha := hA ad rfl
  refine ⟨ad, rfl, by rw [World.size_setCell]; exact hb, a, c, ?_, fun j hj => ?_, hm⟩
  · rw [World.cell?_setCell_other _ _ _ _ (fun e => by have := congrArg Addr.block e; rw [add_block] at this; omega)]; exact hc
  · obtain ⟨x, rfl, hx, hv⟩ := hrr j hj
    have := hr k q hk ad rfl _ _ hc x rfl
    exact ⟨x, rfl, by rw [World.size_setCell]; exact hx, by rw [World.cell?_setCell_other _ _ _ _ (fun e => by have := congrArg Addr.block e; rw [add_block] at this; omega)]; exact hv⟩
set_option maxRecDepth 100000 in
set_option maxHeartbeats 3200000 in
theorem run_any (l : List It) (A : Option Addr) (c L : Nat) (wt st : Int) (v : List Int) (pA : Option Addr) (n pc : Nat) (hL : L = l.length) (hn : n = v.length) (w : World) (h : IRow w A l) (hp : Row .i64 w w.heap.size pA v) (hm : v.length ≤ maxLen) :
    Calls Try.prog 25 #[jv A L c wt, pv st pA n pc] w (RunPost l wt st v w) := by
  obtain ⟨HJ0, HP0, HB0⟩ := pbox2 w A L c wt st pA n pc
  have BX := (Below.refl _ ((w.alloc (.cells #[.slice A L c, .int .i64 wt] 39)).alloc (.cells #[.int .i64 st, .slice pA n pc] 24))).alloc (Nat.le_refl _) (.cells #[.slice none 0 0, .int .i64 0] 54)
  have e2 : ((w.alloc (.cells #[.slice A L c, .int .i64 wt] 39)).alloc (.cells #[.int .i64 st, .slice pA n pc] 24)).heap.size = w.heap.size + 2 := by simp
  have hat := heap_alloc_new ((w.alloc (.cells #[.slice A L c, .int .i64 wt] 39)).alloc (.cells #[.int .i64 st, .slice pA n pc] 24)) (.cells #[.slice none 0 0, .int .i64 0] 54)
  rw [e2] at hat
  have HR := Lib.hid hat
  have HJ := Lib.hid (HJ0.below BX HJ0.lt)
  have HP := Lib.hid (HP0.below BX HP0.lt)
  have HB := Lib.hid (HB0.trans (BX.mono HB0.size))
  have HSZ := Lib.hid (show (((w.alloc (.cells #[.slice A L c, .int .i64 wt] 39)).alloc (.cells #[.int .i64 st, .slice pA n pc] 24)).alloc (.cells #[.slice none 0 0, .int .i64 0] 54)).heap.size = w.heap.size + 3 by simp)
  have H := Lib.hid h
  have HQ := Lib.hid hp
  have HV := Lib.hid (fun (W : World) (k : IRow W A l) (q : Row .i64 W W.heap.size pA v) => val14_any l A c L wt st v pA n pc hL hn W k q hm)
  have HMC := Lib.hid (fun (S last : Nat) (hpl : Pl l wt S v) (hl : last ≤ S) (W : World) (k : IRow W A l) (q : Row .i64 W W.heap.size pA v) => mach_any l wt S v hpl A c L hL pA n pc (tnT l) last hn rfl hl W k q)
  clear h hp HJ0 HP0 HB0 hm hL hn BX e2 hat
  obtain ⟨b, hb⟩ : ∃ b, b = w.heap.size := ⟨_, rfl⟩
  have HBB := Lib.hid hb
  go_enter Try.func25, Try.ntmps25
  go_upto_region 1 with fail
  rw [← hb] at HJ HP HR HSZ ⊢
  generalize ((w.alloc (.cells #[.slice A L c, .int .i64 wt] 39)).alloc (.cells #[.int .i64 st, .slice pA n pc] 24)).alloc (.cells #[.slice none 0 0, .int .i64 0] 54) = w1 at *
  clear hb
  obtain ⟨j0, j1, jl⟩ := HJ.out
  obtain ⟨p0, p1, -, pl⟩ := HP.out
  go_wp2_with fail
  refine (HV.out w1 (H.out.below HB.out) (HQ.out.below HB.out)).mono ?_
  rintro e w2 ⟨rfl, B2⟩
  have HJ2 := Lib.hid (HJ.out.below B2 HJ.out.lt)
  have HP2 := Lib.hid (HP.out.below B2 HP.out.lt)
  have HB2 := Lib.hid (HB.out.trans (B2.mono HB.out.size))
  obtain ⟨rr, hrr⟩ : ∃ r, r = b + 2 := ⟨_, rfl⟩
  rw [← hrr] at HR ⊢
  have HRR := Lib.hid hrr
  have HRL := Lib.hid (show rr < w1.heap.size by rw [HSZ.out]; omega)
  have HR2 := Lib.hid ((B2.block rr HRL.out).trans HR.out)
  have HS2 := Lib.hid B2.size
  clear B2 j0 j1 jl p0 p1 pl HJ HP HB HV HR hrr
  obtain ⟨j0, j1, jl⟩ := HJ2.out
  obtain ⟨p0, p1, -, pl⟩ := HP2.out
  by_cases hv : val14 l wt st v = 0
  · rw [hv]
    obtain ⟨S, rfl, hpl⟩ := val14_zero hv
    have HPL := Lib.hid hpl
    have HV0 := Lib.hid hv
    clear hv hpl
    go_wp2_with fail
    refine (HMC.out S S HPL.out (Nat.le_refl _) w2 (H.out.below HB2.out) (HQ.out.below HB2.out)).mono ?_
    rintro e w3 ⟨gs, gt, base, rfl, Z, B3, le1, le2⟩
    obtain ⟨mv, hmv⟩ : ∃ x, x = (mM S l.length (cdN v) (rdN l) (S + 1) : Int) := ⟨_, rfl⟩
    obtain ⟨pu, hpu⟩ : ∃ x, x = (mP S l.length (cdN v) (rdN l) (S + 1) : Int) := ⟨_, rfl⟩
    rw [← hmv, ← hpu]
    have HMV := Lib.hid hmv
    clear hmv hpu
    obtain ⟨T, hT⟩ : ∃ T, T = tnT l := ⟨_, rfl⟩
    have BX := (Below.refl w3.heap.size w3).alloc (Nat.le_refl _) (.cells #[.slice A L c, .slice pA n pc, .slice (some ⟨gs, 0, none⟩) S S, .slice (some ⟨gt, 0, none⟩) T T, .int .i64 mv, .int .i64 pu] 88)
    rw [← hT]
    have HT := Lib.hid hT
    have hrl3 : rr < w3.heap.size := by have := HRL.out; have := HS2.out; have := B3.size; omega
    have HR4 := Lib.hid ((BX.block rr hrl3).trans ((B3.block rr (by have := HRL.out; have := HS2.out; omega)).trans HR2.out))
    have HZ4 := Lib.hid (Z.below BX)
    have HB4 := Lib.hid ((HB2.out.trans (B3.mono HB2.out.size)).trans (BX.mono (Nat.le_trans HB2.out.size B3.size)))
    have HLE := Lib.hid (show w2.heap.size ≤ gs ∧ w2.heap.size ≤ gt from ⟨le1, le2⟩)
    have c3 : (w3.alloc (.cells #[.slice A L c, .slice pA n pc, .slice (some ⟨gs, 0, none⟩) S S, .slice (some ⟨gt, 0, none⟩) T T, .int .i64 mv, .int .i64 pu] 88)).cell? ⟨w3.heap.size, 3, none⟩ = some (.slice (some ⟨gt, 0, none⟩) T T) := by rw [cell_new]; rfl
    have c4 : (w3.alloc (.cells #[.slice A L c, .slice pA n pc, .slice (some ⟨gs, 0, none⟩) S S, .slice (some ⟨gt, 0, none⟩) T T, .int .i64 mv, .int .i64 pu] 88)).cell? ⟨w3.heap.size, 4, none⟩ = some (.int .i64 mv) := by rw [cell_new]; rfl
    clear Z B3 le1 le2 hT BX j0 j1 p0 p1 jl pl hrl3
    go_upto_region 5 with fail
    generalize w3.heap.size = hb at *
    generalize w3.alloc (.cells #[.slice A L c, .slice pA n pc, .slice (some ⟨gs, 0, none⟩) S S, .slice (some ⟨gt, 0, none⟩) T T, .int .i64 mv, .int .i64 pu] 88) = w4 at *
    have r0 := cell_of (j := 0) HR4.out rfl
    have r1 := cell_of (j := 1) HR4.out rfl
    have f0 := frozen_of_row w4 rr 0 _ _ HR4.out
    have f1 := frozen_of_row w4 rr 1 _ _ HR4.out
    have g0 : (((w4.setCell ⟨rr, 0, none⟩ (.slice (some ⟨gt, 0, none⟩) T T)).setCell ⟨rr, 1, none⟩ (.int .i64 mv))).cell? ⟨rr, 0, none⟩ = some (.slice (some ⟨gt, 0, none⟩) T T) := by
      rw [World.cell?_setCell_other _ _ _ _ (by simp)]; exact World.cell?_setCell_same _ _ _ r0
    have g1 : (((w4.setCell ⟨rr, 0, none⟩ (.slice (some ⟨gt, 0, none⟩) T T)).setCell ⟨rr, 1, none⟩ (.int .i64 mv))).cell? ⟨rr, 1, none⟩ = some (.int .i64 mv) :=
      World.cell?_setCell_same _ _ _ (by rw [World.cell?_setCell_other _ _ _ _ (by simp)]; exact r1)
    have HG := Lib.hid (And.intro g0 g1)
    have HZ6 := Lib.hid (show Two (fun k => k < w2.heap.size) ((w4.setCell ⟨rr, 0, none⟩ (.slice (some ⟨gt, 0, none⟩) T T)).setCell ⟨rr, 1, none⟩ (.int .i64 mv)) gs gt base _ _ from
      (HZ4.out.setF (p := ⟨rr, 0, none⟩) (by have := HRL.out; have := HS2.out; show rr < _; omega) _).setF (p := ⟨rr, 1, none⟩) (by have := HRL.out; have := HS2.out; show rr < _; omega) _)
    have HB6 := Lib.hid (((HB4.out.setCell (p := ⟨rr, 0, none⟩) (by have := HRR.out; have := HBB.out; show _ ≤ rr; omega) (.slice (some ⟨gt, 0, none⟩) T T)).setCell (p := ⟨rr, 1, none⟩) (by have := HRR.out; have := HBB.out; show _ ≤ rr; omega) (.int .i64 mv)))
    clear g0 g1
    go_wp2_with fail
    refine bodyPost_ret (results_srt rfl _ _ rr _ _ _ _ _ rfl rfl HG.out.1 HG.out.2) rfl ?_
    refine Or.inr ⟨HV0.out, S, gt, rfl, HPL.out, by rw [← HT.out, ← HMV.out], ?_⟩
    exact ⟨HZ6.out.ppt, HB6.out, Nat.le_trans HB2.out.size HLE.out.2, HZ6.out.ltt.1⟩
  · have hne : (val14 l wt st v != 0) = true := bne_iff_ne.2 hv
    have HV := Lib.hid hv
    have r0 := cell_of (j := 0) HR2.out rfl
    have r1 := cell_of (j := 1) HR2.out rfl
    have f0 := frozen_of_row w2 rr 0 _ _ HR2.out
    have f1 := frozen_of_row w2 rr 1 _ _ HR2.out
    have g0 : (((w2.setCell ⟨rr, 0, none⟩ (.slice none 0 0)).setCell ⟨rr, 1, none⟩ (.int .i64 0))).cell? ⟨rr, 0, none⟩ = some (.slice none 0 0) := by
      rw [World.cell?_setCell_other _ _ _ _ (by simp)]; exact World.cell?_setCell_same _ _ _ r0
    have g1 : (((w2.setCell ⟨rr, 0, none⟩ (.slice none 0 0)).setCell ⟨rr, 1, none⟩ (.int .i64 0))).cell? ⟨rr, 1, none⟩ = some (.int .i64 0) :=
      World.cell?_setCell_same _ _ _ (by rw [World.cell?_setCell_other _ _ _ _ (by simp)]; exact r1)
    have HG := Lib.hid (And.intro g0 g1)
    have HB6 := Lib.hid (((HB2.out.setCell (p := ⟨rr, 0, none⟩) (by have := HRR.out; have := HBB.out; show _ ≤ rr; omega) (.slice none 0 0)).setCell (p := ⟨rr, 1, none⟩) (by have := HRR.out; have := HBB.out; show _ ≤ rr; omega) (.int .i64 0)))
    obtain ⟨er, her⟩ : ∃ er, er = val14 l wt st v := ⟨_, rfl⟩
    rw [← her] at hne ⊢
    have HER := Lib.hid her
    clear her
    clear hv HMC g0 g1 j0 j1 p0 p1 jl pl
    go_wp2_with fail
    refine bodyPost_ret (results_srt rfl _ _ rr _ _ _ _ _ rfl rfl HG.out.1 HG.out.2) rfl ?_
    exact Or.inl ⟨HV.out, by rw [HER.out], HB6.out⟩
/-- What Pushes answers. -/
def pushZ (l : List It) (wt st : Int) (v : List Int) : Int × Int := if val14 l wt st v = 0 then ((mP st.toNat l.length (cdN v) (rdN l) (st.toNat + 1) : Int), 0) else (0, val14 l wt st v)
end Go.Proofs.Ytlagadbkencpbaa

namespace Go.Proofs.Ytlagadbkencpbaa
open Go.RowKit Go.Lib

def addAt (ls : List Nat) (i x : Nat) : List Nat := ls.set i (ls.getD i 0 + x)
def addL (x : Nat) (ls : List Nat) (b : Nat) : List Nat := addAt ls b x
theorem addAt_len (ls : List Nat) (i x : Nat) : (addAt ls i x).length = ls.length := by unfold addAt; rw [List.length_set]
theorem foldL_len (x : Nat) (z : List Nat) : ∀ ls, (z.foldl (addL x) ls).length = ls.length := by
  induction z with
  | nil => intro ls; rfl
  | cons b z ih => intro ls; rw [List.foldl_cons, ih]; exact addAt_len _ _ _
theorem getD_setN {ls : List Nat} {i : Nat} (h : i < ls.length) (x j : Nat) : (ls.set i x).getD j 0 = if i = j then x else ls.getD j 0 := by
  rw [List.getD_eq_getElem?_getD, List.getElem?_set]
  by_cases e : i = j
  · rw [if_pos e, if_pos h, if_pos e]; rfl
  · rw [if_neg e, if_neg e, List.getD_eq_getElem?_getD]
theorem addAt_bd {ls : List Nat} {M x i : Nat} (h : ∀ j, ls.getD j 0 ≤ M) : ∀ j, (addAt ls i x).getD j 0 ≤ M + x := by
  intro j
  unfold addAt
  by_cases g : i < ls.length
  · rw [getD_setN g]
    have := h i
    have := h j
    split <;> omega
  · rw [List.set_eq_of_length_le (by omega)]; have := h j; omega
theorem foldL_bd {x : Nat} (z : List Nat) : ∀ (M : Nat) (ls : List Nat), (∀ j, ls.getD j 0 ≤ M) → ∀ j, (z.foldl (addL x) ls).getD j 0 ≤ M + z.length * x := by
  induction z with
  | nil => intro M ls h j; have := h j; simp only [List.foldl_nil, List.length_nil]; omega
  | cons b z ih =>
    intro M ls h j
    rw [List.foldl_cons]
    have := ih (M + x) (addL x ls b) (addAt_bd h) j
    rw [List.length_cons, Nat.succ_mul]; omega
section
variable (S T : Nat) (cd rd tn ln : Nat → Nat)
/-- The loads of the first k items. -/
def ldN : Nat → List Nat
  | 0 => List.replicate (S + T) 0
  | k + 1 => addAt ((blM (cd k) (rd k) 12).foldl (addL (ln k)) (ldN k)) (S + tn k) (ln k)
end
theorem ldN_len (S T : Nat) (cd rd tn ln : Nat → Nat) : ∀ k, (ldN S T cd rd tn ln k).length = S + T := by
  intro k
  induction k with
  | zero => simp [ldN]
  | succ k ih => rw [ldN, addAt_len, foldL_len, ih]
theorem blM_len (K R b : Nat) : (blM K R b).length ≤ b := by
  have := blN_len K R b
  rw [blN_toZ, toZ_len] at this
  exact this
theorem ldN_bd {S T : Nat} {cd rd tn ln : Nat → Nat} (hl : ∀ k, ln k ≤ 400) : ∀ k, ∀ j, (ldN S T cd rd tn ln k).getD j 0 ≤ 5200 * k := by
  intro k
  induction k with
  | zero =>
    intro j
    have e : (ldN S T cd rd tn ln 0).getD j 0 = 0 := by
      show (List.replicate (S + T) 0).getD j 0 = 0
      rw [List.getD_eq_getElem?_getD, List.getElem?_replicate]; split <;> rfl
    omega
  | succ k ih =>
    intro j
    rw [ldN]
    have h1 := foldL_bd (x := ln k) (blM (cd k) (rd k) 12) _ _ ih
    have h2 := addAt_bd (x := ln k) (i := S + tn k) h1 j
    have h3 := blM_len (cd k) (rd k) 12
    have h4 := hl k
    have h5 : (blM (cd k) (rd k) 12).length * ln k ≤ 12 * 400 := Nat.mul_le_mul h3 h4
    omega
def lnN (l : List It) (x : Nat) : Nat := ((l.getD x it0).2.2.2).toNat
theorem Pl.ln {l : List It} {wt : Int} {S : Nat} {v : List Int} (h : Pl l wt S v) {x : Nat} (hx : x < l.length) : (l.getD x it0).2.2.2 = (lnN l x : Int) ∧ lnN l x ≤ 400 := by
  have := ((valid_ok h.val).2.1 _ (getD_memI hx)).2.2.2
  unfold lnN; omega
theorem Pl.lns {l : List It} {wt : Int} {S : Nat} {v : List Int} (h : Pl l wt S v) : ∀ x, lnN l x ≤ 400 := fun x => by
  by_cases g : x < l.length
  · exact (h.ln g).2
  · unfold lnN; rw [List.getD_eq_getElem?_getD, List.getElem?_eq_none (by omega)]; decide
def loadL (l : List It) (wt st : Int) (v : List Int) : List Int := if val14 l wt st v = 0 then toZ (ldN st.toNat (tnT l) (cdN v) (rdN l) (tnN l) (lnN l) l.length) else []
theorem toZ_set (z : List Nat) (i x : Nat) : (toZ z).set i (x : Int) = toZ (z.set i x) := by unfold toZ; rw [List.map_set]
theorem toZ_rep (n : Nat) : List.replicate n (0 : Int) = toZ (List.replicate n 0) := by unfold toZ; rw [List.map_replicate]; rfl
/-- The list of loads, in a block of its own. -/
structure LdS (w1 wr : World) (g N : Nat) (ls : List Nat) : Prop where
  own : Own .i64 3 wr w1.heap.size (.slice (some ⟨g, 0, none⟩) N N) (toZ ls)
  bel : Below w1.heap.size w1 wr
  len : N = ls.length
theorem LdS.ge {w1 wr : World} {g N : Nat} {ls : List Nat} (h : LdS w1 wr g N ls) : w1.heap.size ≤ g ∧ g < wr.heap.size := own_block h.own rfl
theorem LdS.below {w1 wr w' : World} {g N : Nat} {ls : List Nat} (h : LdS w1 wr g N ls) (k : Below wr.heap.size wr w') : LdS w1 w' g N ls := ⟨h.own.below k, h.bel.trans (k.mono h.bel.size), h.len⟩
theorem LdS.add {w1 wr : World} {g N : Nat} {ls : List Nat} (h : LdS w1 wr g N ls) (j x : Nat) : LdS w1 (wr.setCell ⟨g, j, none⟩ (.int .i64 (((ls.getD j 0 + x : Nat)) : Int))) g N (addAt ls j x) := by
  refine ⟨?_, h.bel.setCell (p := ⟨g, j, none⟩) h.ge.1 _, by rw [addAt_len]; exact h.len⟩
  have := h.own.store (by rw [toZ_len]; exact h.len) j (((ls.getD j 0 + x : Nat)) : Int)
  rw [toZ_set] at this
  exact this
theorem LdS.cell {w1 wr : World} {g N : Nat} {ls : List Nat} (h : LdS w1 wr g N ls) {j : Nat} (hj : j < N) : wr.cell? ⟨g, j, none⟩ = some (.int .i64 ((ls.getD j 0 : Nat) : Int)) := by
  have hj' : j < ls.length := by rw [← h.len]; exact hj
  rw [h.own.cell (by rw [toZ_len]; exact h.len) j (by rw [toZ_len]; exact hj'), toZ_at ls hj']
theorem LdS.frozen {w1 wr : World} {g N : Nat} {ls : List Nat} (h : LdS w1 wr g N ls) (j : Nat) : wr.frozen? ⟨g, j, none⟩ = false := h.own.frozen (by rw [toZ_len]; exact h.len) j
theorem IPl.setO {w : World} {b g : Nat} {p : It} (h : IPl w b p) (hne : g ≠ b) (j : Nat) (u : Value) : IPl (w.setCell ⟨g, j, none⟩ u) b p := by
  have o : ∀ i, (w.setCell ⟨g, j, none⟩ u).cell? ⟨b, i, none⟩ = w.cell? ⟨b, i, none⟩ := fun i => World.cell?_setCell_other _ _ _ _ (by
    intro e
    first
      | exact hne (congrArg Addr.block e)
      | exact hne (congrArg Addr.block e).symm)
  exact ⟨(o 0).trans h.c0, (o 1).trans h.c1, (o 2).trans h.c2, (o 3).trans h.c3, by rw [World.size_setCell]; exact h.lt⟩
end Go.Proofs.Ytlagadbkencpbaa

namespace Go.Proofs.Ytlagadbkencpbaa
open Go.RowKit Go.Lib

/-- Lists that have just been laid. -/
theorem row_lit (w : World) (zs : List Int) (hm : zs.length ≤ 1000000) : Row .i64 (w.alloc (.cells (zs.map (Value.int .i64)).toArray 3)) (w.alloc (.cells (zs.map (Value.int .i64)).toArray 3)).heap.size (some ⟨w.heap.size, 0, none⟩) zs := by
  obtain ⟨A, c, e, R, -⟩ := (Own.laid (k := .i64) (T := 3) w w.heap.size (Nat.le_refl _) zs zs.length rfl hm).slice
  obtain rfl : (some ⟨w.heap.size, 0, none⟩ : Option Addr) = A := by injection e
  exact R
theorem pp_lit1 (w : World) (a : List Int) (hm : a.length ≤ 1000000) :
    PP ((w.alloc (.cells (a.map (Value.int .i64)).toArray 3)).alloc (.cells #[.slice (some ⟨w.heap.size, 0, none⟩) a.length a.length] 22)) (some ⟨w.heap.size + 1, 0, none⟩) [a] := fun k p hk => by
  cases k with
  | zero =>
    injection hk with hk
    subst hk
    have hs : (w.alloc (.cells (a.map (Value.int .i64)).toArray 3)).heap.size = w.heap.size + 1 := by simp
    refine ⟨_, rfl, by simp, some ⟨w.heap.size, 0, none⟩, a.length, ?_, (row_lit w a hm).below ((Below.refl _ _).alloc (Nat.le_refl _) _), by unfold maxLen; omega⟩
    rw [add_own, ← hs, cell_new]; rfl
  | succ k => simp at hk
theorem pp_lit2 (w : World) (a b : List Int) (hm : a.length ≤ 1000000) (hm2 : b.length ≤ 1000000) :
    PP (((w.alloc (.cells (a.map (Value.int .i64)).toArray 3)).alloc (.cells (b.map (Value.int .i64)).toArray 3)).alloc (.cells #[.slice (some ⟨w.heap.size, 0, none⟩) a.length a.length, .slice (some ⟨w.heap.size + 1, 0, none⟩) b.length b.length] 22)) (some ⟨w.heap.size + 2, 0, none⟩) [a, b] := fun k p hk => by
  have hs : (w.alloc (.cells (a.map (Value.int .i64)).toArray 3)).heap.size = w.heap.size + 1 := by simp
  have hs2 : ((w.alloc (.cells (a.map (Value.int .i64)).toArray 3)).alloc (.cells (b.map (Value.int .i64)).toArray 3)).heap.size = w.heap.size + 2 := by simp
  have r1 := ((row_lit w a hm).below ((Below.refl _ _).alloc (Nat.le_refl _) (.cells (b.map (Value.int .i64)).toArray 3))).below ((Below.refl _ _).alloc (Nat.le_refl _) (.cells #[.slice (some ⟨w.heap.size, 0, none⟩) a.length a.length, .slice (some ⟨w.heap.size + 1, 0, none⟩) b.length b.length] 22))
  have r2 := (row_lit (w.alloc (.cells (a.map (Value.int .i64)).toArray 3)) b hm2).below ((Below.refl _ _).alloc (Nat.le_refl _) (.cells #[.slice (some ⟨w.heap.size, 0, none⟩) a.length a.length, .slice (some ⟨w.heap.size + 1, 0, none⟩) b.length b.length] 22))
  rw [hs] at r2
  match k with
  | 0 =>
    injection hk with hk
    subst hk
    refine ⟨_, rfl, by simp, some ⟨w.heap.size, 0, none⟩, a.length, ?_, r1, by unfold maxLen; omega⟩
    rw [add_own, ← hs2, cell_new]; rfl
  | 1 =>
    injection hk with hk
    subst hk
    refine ⟨_, rfl, by simp, some ⟨w.heap.size + 1, 0, none⟩, b.length, ?_, r2, by unfold maxLen; omega⟩
    rw [add_own, ← hs2, cell_new]; rfl
  | k + 2 => simp at hk
theorem four_facts : contE itm4 12 2 [1, 2, 0, 1] 0 = 0 ∧ val14 itm4 12 2 [1, 2, 0, 1] = 0 ∧ (mS 2 4 (cdN [1, 2, 0, 1]) (rdN itm4) 1).map toZ = [[0, 3], [1]] ∧ (mT 2 4 1 (cdN [1, 2, 0, 1]) (rdN itm4) (tnN itm4) 1).map toZ = [[2]] ∧
    (mT 2 4 1 (cdN [1, 2, 0, 1]) (rdN itm4) (tnN itm4) 3).map toZ = [[2, 0, 3, 1]] ∧ mM 2 4 (cdN [1, 2, 0, 1]) (rdN itm4) 3 = 7 ∧ loadL itm4 12 2 [1, 2, 0, 1] = [160, 80, 320] ∧ tnT itm4 = 1 := by decide +kernel
end Go.Proofs.Ytlagadbkencpbaa

namespace Go.Proofs.Ytlagadbkencpbaa
open Go.RowKit Go.Lib

/-- The greatest round of the first k items. -/
def rmI (l : List It) : Nat → Int
  | 0 => 0
  | k + 1 => max2 (rmI l k) (rnd l k)
theorem rmI_bd {l : List It} (h : ∀ y, y < l.length → 0 ≤ rnd l y ∧ rnd l y ≤ 12) : ∀ k, k ≤ l.length → (0 ≤ rmI l k ∧ rmI l k ≤ 12) ∧ ∀ y, y < k → rnd l y ≤ rmI l k := by
  intro k
  induction k with
  | zero => intro _; exact ⟨⟨Int.le_refl _, by show (0 : Int) ≤ 12; omega⟩, fun y hy => absurd hy (Nat.not_lt_zero _)⟩
  | succ k ih =>
    intro hk
    obtain ⟨i1, i2⟩ := ih (by omega)
    have hb := h k (by omega)
    have e : rmI l (k + 1) = if rmI l k < rnd l k then rnd l k else rmI l k := rfl
    rw [e]
    refine ⟨by split <;> omega, fun y hy => ?_⟩
    rcases Nat.lt_or_ge y k with g | g
    · have := i2 y g
      split <;> omega
    · obtain rfl : y = k := by omega
      split <;> omega
structure PlS (w wr : World) (m N jb : Nat) (jA : Option Addr) (L jc : Nat) (wt : Int) (l : List It) (r pb : Nat) (S : Int) (vA : Option Addr) (vc : Nat) (v : List Int) : Prop where
  jbx : JBox wr jb jA L jc wt
  jo : IOwn 85 wr (m + 1) (.slice jA L jc) l
  jlo : ∀ g, (Value.slice jA L jc).ownBlock = some g → g < jb
  rb : PBox wr r 0 none 0 0
  pbx : PBox wr pb S vA v.length vc
  po : Own .i64 3 wr (pb + 1) (.slice vA v.length vc) v
  mkr : IsMk wr m N
  mv : Moves m w wr
  ord : m < jb ∧ jb < r ∧ r < pb ∧ w.heap.size ≤ jb
section
variable {w wr w' : World} {m N jb : Nat} {jA : Option Addr} {L jc : Nat} {wt : Int} {l : List It} {r pb : Nat} {S : Int} {vA : Option Addr} {vc : Nat} {v : List Int}
theorem JBox.moves' {w w' : World} {m b n c : Nat} {wt : Int} {A : Option Addr} (h : JBox w b A n c wt) (k : Moves m w w') (hb : b ≠ m) : JBox w' b A n c wt :=
  ⟨(k.cell (p := ⟨b, 0, none⟩) h.lt hb).trans h.c0, (k.cell (p := ⟨b, 1, none⟩) h.lt hb).trans h.c1, Nat.lt_of_lt_of_le h.lt k.size⟩
theorem PlS.moves (h : PlS w wr m N jb jA L jc wt l r pb S vA vc v) {M : Nat} (k : Moves m wr w') (g : IsMk w' m M) : PlS w w' m M jb jA L jc wt l r pb S vA vc v := by
  have := h.ord
  exact ⟨h.jbx.moves' k (by omega), h.jo.moves k (by omega), h.jlo, h.rb.moves k (by omega), h.pbx.moves k (by omega), h.po.moves k (by omega), g, h.mv.trans k, h.ord⟩
theorem PlS.below (h : PlS w wr m N jb jA L jc wt l r pb S vA vc v) (k : Below wr.heap.size wr w') : PlS w w' m N jb jA L jc wt l r pb S vA vc v := h.moves (Moves.of_below k) (h.mkr.stays' k)
theorem PlS.more (h : PlS w wr m N jb jA L jc wt l r pb S vA vc v) {M : Nat} (k : N ≤ M) : PlS w wr m M jb jA L jc wt l r pb S vA vc v :=
  ⟨h.jbx, h.jo, h.jlo, h.rb, h.pbx, h.po, h.mkr.more k, h.mv, h.ord⟩
theorem PlS.app (h : PlS w wr m N jb jA L jc wt l r pb S vA vc v) {y : Int} {v' : Value} (A : AppI (pb + 1) (.slice vA v.length vc) v y wr v' w') :
    w'.cell? ⟨pb, 1, none⟩ = some (.slice vA v.length vc) ∧ w'.frozen? ⟨pb, 1, none⟩ = false ∧ ∃ vA' vc', v' = .slice vA' (v ++ [y]).length vc' ∧ PlS w (w'.setCell ⟨pb, 1, none⟩ v') m N jb jA L jc wt l r pb S vA' vc' (v ++ [y]) := by
  obtain ⟨O', hg, g', c, rfl, hlt, hat⟩ := A
  obtain ⟨o1, o2, o3, o4⟩ := h.ord
  have hvb : ∀ j, (Value.slice vA v.length vc).ownBlock = some j → pb + 1 ≤ j := fun j hj => (own_block h.po hj).1
  have hgp : pb < g' := by
    rcases hat with e | e
    · exact hvb g' e
    · have := h.pbx.lt; omega
  have blk : ∀ k, k ≤ pb → k < wr.heap.size → w'.heap[k]? = wr.heap[k]? := fun k hk hl => hg.block k hl (fun e => by have := hvb k e.symm; omega)
  have hpl := h.pbx.lt
  have c0 : w'.cell? ⟨pb, 0, none⟩ = some (.int .i64 S) := (World.cell?_of_block (w := wr) (blk pb (Nat.le_refl _) hpl)).trans h.pbx.c0
  have c1 : w'.cell? ⟨pb, 1, none⟩ = some (.slice vA v.length vc) := (World.cell?_of_block (w := wr) (blk pb (Nat.le_refl _) hpl)).trans h.pbx.c1
  have cf : ∀ j, w'.frozen? ⟨pb, j, none⟩ = false := fun j => (World.frozen?_of_block (w := wr) (blk pb (Nat.le_refl _) hpl)).trans (h.pbx.f j)
  have gs : w'.grownBy (w'.setCell ⟨pb, 1, none⟩ (.slice (some ⟨g', 0, none⟩) (v.length + 1) c)) (some pb) :=
    ⟨rfl, rfl, rfl, by rw [World.size_setCell]; exact Nat.le_refl _, fun k hk hn => Below.heap_setCell _ _ _ _ (fun e => hn (by first | exact congrArg some e | exact congrArg some e.symm))⟩
  have old : ∀ k, k < pb → k < wr.heap.size → (w'.setCell ⟨pb, 1, none⟩ (.slice (some ⟨g', 0, none⟩) (v.length + 1) c)).heap[k]? = wr.heap[k]? := fun k hk hl => (Below.heap_setCell _ _ _ _ (by show k ≠ pb; omega)).trans (blk k (by omega) hl)
  have bel : Below pb wr (w'.setCell ⟨pb, 1, none⟩ (.slice (some ⟨g', 0, none⟩) (v.length + 1) c)) := ⟨hg.os, hg.tape, hg.output, by rw [World.size_setCell]; exact hg.size, fun k hk => old k hk (by omega)⟩
  refine ⟨c1, cf 1, some ⟨g', 0, none⟩, c, by rw [List.length_append]; rfl, ?_⟩
  have hmk : m + 1 ≤ pb := by omega
  refine ⟨h.jbx.below bel (by omega), ?_, h.jlo, h.rb.below bel (by omega), ?_, ?_, h.mkr.stays (bel.mono hmk), ⟨bel.os.trans h.mv.os, bel.tape.trans h.mv.tape, bel.output.trans h.mv.output, Nat.le_trans h.mv.size bel.size, fun k hk hm => ?_⟩, h.ord⟩
  · exact h.jo.under bel (fun g hg => by have := h.jlo g hg; omega)
  · rw [List.length_append]
    exact ⟨by rw [World.cell?_setCell_other _ _ _ _ (by simp)]; exact c0, World.cell?_setCell_same _ _ _ c1, fun j => by rw [World.frozen?_setCell]; exact cf j, by rw [World.size_setCell]; exact Nat.lt_of_lt_of_le hpl hg.size⟩
  · rw [List.length_append]
    exact O'.kept gs (Or.inr (fun e => by have : g' = pb := by simpa [Value.ownBlock] using e
                                          omega))
  · exact (bel.block k (by omega)).trans (h.mv.block k hk hm)
end
theorem results_plan1 {fn : Func} {p : Tmp} (hf : fn.results = #[.cell p 24]) (tmps : Array Value) (w : World) (b : Nat) (st : Int) (A : Option Addr) (n c : Nat) (h2 : tmps.getD p undef = .pointer (some ⟨b, 0, none⟩)) (c0 : w.cell? ⟨b, 0, none⟩ = some (.int .i64 st)) (c1 : w.cell? ⟨b, 1, none⟩ = some (.slice A n c)) :
    (results fn tmps).run Try.prog w = .ok (pv st A n c) w := by
  have h2' : tmps[p]?.getD undef = .pointer (some ⟨b, 0, none⟩) := by simpa using h2
  simp [results, hf, go_sem, h2', c0, c1, asAddr]
/-- What plan leaves. -/
def PlanPost (l : List It) (wt : Int) (m N : Nat) (w : World) (e : Ending) (w' : World) : Prop :=
  ∃ S pA pc v, e = .returned (pv ((S : Nat) : Int) pA v.length pc) ∧ Own .i64 3 w' w.heap.size (.slice pA v.length pc) v ∧ Pl l wt S v ∧ IsMk w' m (N + 1 + l.length) ∧ Moves m w w'
end Go.Proofs.Ytlagadbkencpbaa

namespace Go.Proofs.Ytlagadbkencpbaa
open Go.RowKit Go.Lib

theorem bit_iff {K b : Nat} : bitN K b = true ↔ K / 2 ^ b % 2 = 1 := by unfold bitN; exact beq_iff_eq
theorem blM_nb (K R : Nat) : ∀ b, (blM K R b).length = nbN K R b := by
  intro b
  induction b with
  | zero => rfl
  | succ b ih =>
    unfold blM nbN
    by_cases g : R ≤ b ∧ K / 2 ^ b % 2 = 1
    · rw [if_pos g, if_pos ⟨g.1, bit_iff.2 g.2⟩, List.length_append, ih]; rfl
    · rw [if_neg g, if_neg (fun h => g ⟨h.1, bit_iff.1 h.2⟩), ih, Nat.add_zero]
theorem nb_high {K R S : Nat} (h : K < 2 ^ S) : ∀ d, nbN K R (S + d) = nbN K R S := by
  intro d
  induction d with
  | zero => rfl
  | succ d ih =>
    show nbN K R (S + d) + _ = _
    rw [ih, if_neg (fun g => by have h2 := bit_high h (show S ≤ S + d by omega); have h3 : bitN K (S + d) = true := g.2; rw [h2] at h3; cases h3)]
    omega
theorem blM_all {K R S : Nat} (hS : S ≤ 12) (h : K < 2 ^ S) : (blM K R 12).length = nbN K R S := by
  rw [blM_nb, show 12 = S + (12 - S) by omega, nb_high h]
/-- The moves of the first k items. -/
def mvN (cd rd : Nat → Nat) (k : Nat) : Nat := sumN (fun x => 1 + (blM (cd x) (rd x) 12).length) k
theorem mvN_succ (cd rd : Nat → Nat) (k : Nat) : mvN cd rd (k + 1) = mvN cd rd k + (1 + (blM (cd k) (rd k) 12).length) := rfl
theorem mvN_bd (cd rd : Nat → Nat) : ∀ k, mvN cd rd k ≤ 13 * k := by
  intro k
  induction k with
  | zero => exact Nat.le_refl _
  | succ k ih => rw [mvN_succ]; have := blM_len (cd k) (rd k) 12; omega
theorem mM_mv {S L T : Nat} {cd rd tn : Nat → Nat} (h : FitN S L T cd rd tn) (hS : S ≤ 12) : mM S L cd rd (S + 1) = mvN cd rd L := by
  rw [mM_eq h (S + 1) (Nat.le_refl _)]
  refine sumN_congr fun x hx => ?_
  rw [if_pos (by have := rd_le h hx; omega), Nat.add_sub_cancel, blM_all hS (h.cdl x hx)]
/-- The loads of the sorting tracks of the first k items. -/
def ldM (S : Nat) (cd rd ln : Nat → Nat) : Nat → List Nat
  | 0 => List.replicate S 0
  | k + 1 => (blM (cd k) (rd k) 12).foldl (addL (ln k)) (ldM S cd rd ln k)
theorem ldM_len (S : Nat) (cd rd ln : Nat → Nat) : ∀ k, (ldM S cd rd ln k).length = S := by
  intro k
  induction k with
  | zero => simp [ldM]
  | succ k ih => rw [ldM, foldL_len, ih]
theorem addAt_take {ls : List Nat} {i x S : Nat} (h : i < S) : (addAt ls i x).take S = addAt (ls.take S) i x := by
  unfold addAt
  rw [List.take_set, show (ls.take S).getD i 0 = ls.getD i 0 by rw [List.getD_eq_getElem?_getD, List.getElem?_take, if_pos h, List.getD_eq_getElem?_getD]]
theorem addAt_take2 {ls : List Nat} {i x S : Nat} (h : S ≤ i) : (addAt ls i x).take S = ls.take S := by
  unfold addAt
  refine List.ext_getElem? fun j => ?_
  rw [List.getElem?_take, List.getElem?_take]
  by_cases g : j < S
  · rw [if_pos g, if_pos g, List.getElem?_set, if_neg (by omega)]
  · rw [if_neg g, if_neg g]
theorem foldL_take {S x : Nat} (z : List Nat) (h : ∀ b ∈ z, b < S) : ∀ ls, (z.foldl (addL x) ls).take S = z.foldl (addL x) (ls.take S) := by
  induction z with
  | nil => intro ls; rfl
  | cons b z ih =>
    intro ls
    rw [List.foldl_cons, List.foldl_cons, ih (fun c hc => h c (List.mem_cons_of_mem _ hc))]
    congr 1
    exact addAt_take (h b (List.mem_cons_self ..))
theorem ldN_take {S L T : Nat} {cd rd tn ln : Nat → Nat} (h : FitN S L T cd rd tn) : ∀ k, k ≤ L → (ldN S T cd rd tn ln k).take S = ldM S cd rd ln k := by
  intro k
  induction k with
  | zero => intro _; show (List.replicate (S + T) 0).take S = List.replicate S 0; rw [List.take_replicate]; congr 1; omega
  | succ k ih =>
    intro hk
    rw [ldN, addAt_take2 (by omega), foldL_take _ (fun b hb => ?_), ih (by omega), ldM]
    obtain ⟨_, _, h3⟩ := (blM_mem 12 b).1 hb
    rcases Nat.lt_or_ge b S with g | g
    · exact g
    · rw [bit_high (h.cdl k (by omega)) g] at h3; cases h3
theorem toZ_take (z : List Nat) (k : Nat) : (toZ z).take k = toZ (z.take k) := by unfold toZ; rw [List.map_take]
theorem ldM_bd {S : Nat} {cd rd ln : Nat → Nat} (hl : ∀ k, ln k ≤ 400) : ∀ k, ∀ j, (ldM S cd rd ln k).getD j 0 ≤ 4800 * k := by
  intro k
  induction k with
  | zero =>
    intro j
    have e : (ldM S cd rd ln 0).getD j 0 = 0 := by
      show (List.replicate S 0).getD j 0 = 0
      rw [List.getD_eq_getElem?_getD, List.getElem?_replicate]; split <;> rfl
    omega
  | succ k ih =>
    intro j
    rw [ldM]
    have h1 := foldL_bd (x := ln k) (blM (cd k) (rd k) 12) _ _ ih j
    have h5 : (blM (cd k) (rd k) 12).length * ln k ≤ 12 * 400 := Nat.mul_le_mul (blM_len _ _ _) (hl k)
    omega
end Go.Proofs.Ytlagadbkencpbaa
