/-
  Stage 13: the program's solve.
-/
import Derived.Sort.CutIn
import Derived.Test.YtkopbnppjhdbgaaYSol
set_option linter.unusedSimpArgs false
set_option linter.unusedVariables false
namespace Go.Proofs.Ytkopbnppjhdbgaa
open Go.RowKit Go.Lib Go.Shelf
attribute [local go_sem] Oper.semAt_some

/-- What solve leaves: the slices of the bases and the codes, and the error. -/
def SolvePost (l : List It) (wt : Int) (w : World) (e : Ending) (w' : World) : Prop :=
  ∃ d er bs v, e = .returned (.tuple #[sv d, .int .i64 er]) ∧ Own .i64 3 w' w.heap.size (.slice d.1.1 d.1.2.1 d.1.2.2) bs ∧ Own .i64 3 w' w.heap.size (.slice d.2.1 d.2.2.1 d.2.2.2) v ∧ Below w.heap.size w w' ∧
    ((validR l wt ≠ 0 ∧ er = validR l wt ∧ v = [] ∧ bs = []) ∨ (validR l wt = 0 ∧ er = 15 ∧ v = [] ∧ bs = [] ∧ ∀ bs' v', ¬ Sol l wt bs' v') ∨ (validR l wt = 0 ∧ er = 0 ∧ Sol l wt bs v))
/-- The boxes of the call: the job, the result, the error. -/
structure SvA (w : World) (n : Nat) (A : Option Addr) (L c : Nat) (wt : Int) (wr : World) : Prop where
  bel : Below w.heap.size w wr
  box : JBox wr n A L c wt
  c20 : wr.cell? ⟨n + 1, 0, none⟩ = some (.slice none 0 0)
  c21 : wr.cell? ⟨n + 1, 1, none⟩ = some (.slice none 0 0)
  c3 : wr.cell? ⟨n + 1 + 1, 0, none⟩ = some (.int .i64 0)
  f2 : ∀ j, wr.frozen? ⟨n + 1, j, none⟩ = false
  f3 : ∀ j, wr.frozen? ⟨n + 1 + 1, j, none⟩ = false
  lt : n + 1 + 1 < wr.heap.size
theorem SvA.below {w wr w' : World} {n L c B : Nat} {A : Option Addr} {wt : Int} (h : SvA w n A L c wt wr) (k : Below B wr w') (hB : n + 1 + 1 < B) (hw : w.heap.size ≤ B) : SvA w n A L c wt w' :=
  ⟨h.bel.trans (k.mono hw), h.box.below k (by omega), (k.cell (p := ⟨n + 1, 0, none⟩) (by show n + 1 < B; omega)).trans h.c20, (k.cell (p := ⟨n + 1, 1, none⟩) (by show n + 1 < B; omega)).trans h.c21, (k.cell (p := ⟨n + 1 + 1, 0, none⟩) hB).trans h.c3,
    fun j => (k.frozen (p := ⟨n + 1, j, none⟩) (by show n + 1 < B; omega)).trans (h.f2 j), fun j => (k.frozen (p := ⟨n + 1 + 1, j, none⟩) hB).trans (h.f3 j), Nat.lt_of_lt_of_le h.lt k.size⟩
theorem SvA.new {w : World} {A : Option Addr} {L c : Nat} {wt : Int} : SvA w w.heap.size A L c wt (((w.alloc (.cells #[.slice A L c, .int .i64 wt] 24)).alloc (.cells #[.slice none 0 0, .slice none 0 0] 77)).alloc (.cells #[.int .i64 0] 33)) := by
  have s1 : (w.alloc (.cells #[.slice A L c, .int .i64 wt] 24)).heap.size = w.heap.size + 1 := by simp
  have B1 := (Below.refl w.heap.size w).alloc (Nat.le_refl _) (.cells #[.slice A L c, .int .i64 wt] 24)
  have J := JBox.new (w := w) (A := A) (n := L) (c := c) (wt := wt) w.heap.size rfl
  generalize w.alloc (.cells #[.slice A L c, .int .i64 wt] 24) = w1 at *
  have s2 : (w1.alloc (.cells #[.slice none 0 0, .slice none 0 0] 77)).heap.size = w1.heap.size + 1 := by simp
  have b2 := (Below.refl w1.heap.size w1).alloc (Nat.le_refl _) (.cells #[.slice none 0 0, .slice none 0 0] 77)
  have c0 : (w1.alloc (.cells #[.slice none 0 0, .slice none 0 0] 77)).cell? ⟨w1.heap.size, 0, none⟩ = some (.slice none 0 0) := by rw [cell_new]; rfl
  have c1 : (w1.alloc (.cells #[.slice none 0 0, .slice none 0 0] 77)).cell? ⟨w1.heap.size, 1, none⟩ = some (.slice none 0 0) := by rw [cell_new]; rfl
  have f2 := fun j => frozen_new w1 #[.slice none 0 0, .slice none 0 0] 77 w1.heap.size j rfl
  generalize w1.alloc (.cells #[.slice none 0 0, .slice none 0 0] 77) = w2 at *
  have s3 : (w2.alloc (.cells #[.int .i64 0] 33)).heap.size = w2.heap.size + 1 := by simp
  have b3 := (Below.refl w2.heap.size w2).alloc (Nat.le_refl _) (.cells #[.int .i64 0] 33)
  have c3 : (w2.alloc (.cells #[.int .i64 0] 33)).cell? ⟨w2.heap.size, 0, none⟩ = some (.int .i64 0) := by rw [cell_new]; rfl
  have f3 := fun j => frozen_new w2 #[.int .i64 0] 33 w2.heap.size j rfl
  generalize w2.alloc (.cells #[.int .i64 0] 33) = w3 at *
  rw [s2, s1] at c3 f3
  rw [s1] at c0 c1 f2
  have e1 : w.heap.size + 1 < w2.heap.size := by omega
  exact ⟨(B1.trans (b2.mono (by omega))).trans (b3.mono (by omega)), (J.below b2 (by omega)).below b3 (by omega), (b3.cell (p := ⟨w.heap.size + 1, 0, none⟩) e1).trans c0, (b3.cell (p := ⟨w.heap.size + 1, 1, none⟩) e1).trans c1, c3, fun j => (b3.frozen (p := ⟨w.heap.size + 1, j, none⟩) e1).trans (f2 j), f3, by omega⟩
/-- A result stored. -/
theorem SvA.put {w wr : World} {n L c : Nat} {A : Option Addr} {wt : Int} (h : SvA w n A L c wt wr) (hn : w.heap.size ≤ n) (d : SD) (er : Int) :
    Below w.heap.size w (((wr.setCell ⟨n + 1, 0, none⟩ (.slice d.1.1 d.1.2.1 d.1.2.2)).setCell ⟨n + 1, 1, none⟩ (.slice d.2.1 d.2.2.1 d.2.2.2)).setCell ⟨n + 1 + 1, 0, none⟩ (.int .i64 er)) ∧
    (((wr.setCell ⟨n + 1, 0, none⟩ (.slice d.1.1 d.1.2.1 d.1.2.2)).setCell ⟨n + 1, 1, none⟩ (.slice d.2.1 d.2.2.1 d.2.2.2)).setCell ⟨n + 1 + 1, 0, none⟩ (.int .i64 er)).cell? ⟨n + 1, 0, none⟩ = some (.slice d.1.1 d.1.2.1 d.1.2.2) ∧
    (((wr.setCell ⟨n + 1, 0, none⟩ (.slice d.1.1 d.1.2.1 d.1.2.2)).setCell ⟨n + 1, 1, none⟩ (.slice d.2.1 d.2.2.1 d.2.2.2)).setCell ⟨n + 1 + 1, 0, none⟩ (.int .i64 er)).cell? ⟨n + 1, 1, none⟩ = some (.slice d.2.1 d.2.2.1 d.2.2.2) ∧
    (((wr.setCell ⟨n + 1, 0, none⟩ (.slice d.1.1 d.1.2.1 d.1.2.2)).setCell ⟨n + 1, 1, none⟩ (.slice d.2.1 d.2.2.1 d.2.2.2)).setCell ⟨n + 1 + 1, 0, none⟩ (.int .i64 er)).cell? ⟨n + 1 + 1, 0, none⟩ = some (.int .i64 er) := by
  have ne : ∀ i j, (⟨n + 1 + 1, i, none⟩ : Addr) ≠ ⟨n + 1, j, none⟩ := fun i j e => by injection e with e; omega
  have g1 : (wr.setCell ⟨n + 1, 0, none⟩ (.slice d.1.1 d.1.2.1 d.1.2.2)).cell? ⟨n + 1, 1, none⟩ = some (.slice none 0 0) := by rw [World.cell?_setCell_other _ _ _ _ (by simp)]; exact h.c21
  have g3 : ((wr.setCell ⟨n + 1, 0, none⟩ (.slice d.1.1 d.1.2.1 d.1.2.2)).setCell ⟨n + 1, 1, none⟩ (.slice d.2.1 d.2.2.1 d.2.2.2)).cell? ⟨n + 1 + 1, 0, none⟩ = some (.int .i64 0) := by
    rw [World.cell?_setCell_other _ _ _ _ (fun e => ne _ _ e.symm), World.cell?_setCell_other _ _ _ _ (fun e => ne _ _ e.symm)]; exact h.c3
  refine ⟨((h.bel.setCell (by show _ ≤ n + 1; omega) _).setCell (by show _ ≤ n + 1; omega) _).setCell (by show _ ≤ n + 1 + 1; omega) _, ?_, ?_, World.cell?_setCell_same _ _ _ g3⟩
  · rw [World.cell?_setCell_other _ _ _ _ (ne _ _), World.cell?_setCell_other _ _ _ _ (by simp)]; exact World.cell?_setCell_same _ _ _ h.c20
  · rw [World.cell?_setCell_other _ _ _ _ (ne _ _)]; exact World.cell?_setCell_same _ _ _ g1
/-- The solution under way. -/
structure SvM (wr : World) (n L b5 gB gC : Nat) (bs v : List Int) : Prop where
  c0 : wr.cell? ⟨b5, 0, none⟩ = some (.slice (some ⟨gB, 0, none⟩) L L)
  c1 : wr.cell? ⟨b5, 1, none⟩ = some (.slice (some ⟨gC, 0, none⟩) L L)
  ob : Own .i64 3 wr (n + 3) (.slice (some ⟨gB, 0, none⟩) L L) bs
  ov : Own .i64 3 wr (n + 3) (.slice (some ⟨gC, 0, none⟩) L L) v
  ne : gB ≠ gC ∧ gB ≠ b5 ∧ gC ≠ b5
  ge : n + 3 ≤ b5 ∧ b5 < wr.heap.size
theorem al3 (w : World) (a b c : Obj) : (((w.alloc a).alloc b).alloc c).drew.heap[w.heap.size]? = some a ∧ (((w.alloc a).alloc b).alloc c).drew.heap[w.heap.size + 1]? = some b ∧ (((w.alloc a).alloc b).alloc c).drew.heap[w.heap.size + 1 + 1]? = some c := by
  have h1 : (w.alloc a).heap.size = w.heap.size + 1 := by simp
  have h2 : ((w.alloc a).alloc b).heap.size = w.heap.size + 1 + 1 := by simp
  have e1 := World.alloc_heap_new w a
  have e2 := World.alloc_heap_new (w.alloc a) b
  have e3 := World.alloc_heap_new ((w.alloc a).alloc b) c
  rw [h1] at e2
  rw [h2] at e3
  refine ⟨?_, ?_, e3⟩
  · exact (Below.heap_alloc _ _ _ (by omega)).trans ((Below.heap_alloc _ _ _ (by omega)).trans e1)
  · exact (Below.heap_alloc _ _ _ (by omega)).trans e2
theorem bel3 (w : World) (a b c : Obj) : Below w.heap.size w (((w.alloc a).alloc b).alloc c).drew := ((((Below.refl _ w).alloc (Nat.le_refl _) a).alloc (by simp) b).alloc (by simp; omega) c).drew
theorem own_zeros {W : World} {g L base : Nat} (h : W.heap[g]? = some (.cells (Array.replicate L (Value.int .i64 0)) 3)) (hb : base ≤ g) (hL : L ≤ 1000) : Own .i64 3 W base (.slice (some ⟨g, 0, none⟩) L L) (List.replicate L 0) := by
  refine ⟨by simp, Or.inr ⟨g, L, Array.replicate L (Value.int .i64 0), by simp, hb, h, by simp, by unfold maxLen; omega, by simp, ?_⟩⟩
  simp
theorem cellOf {W : World} {b : Nat} {cs : Array Value} {T : TypeId} (h : W.heap[b]? = some (.cells cs T)) (o : Nat) : W.cell? ⟨b, o, none⟩ = cs[o]? := by
  unfold World.cell?; rw [h]; rfl
theorem SvM.laid {W : World} {n L b5 gB gC : Nat} (h5 : W.heap[b5]? = some (.cells #[.slice (some ⟨gB, 0, none⟩) L L, .slice (some ⟨gC, 0, none⟩) L L] 77)) (hB : W.heap[gB]? = some (.cells (Array.replicate L (Value.int .i64 0)) 3)) (hC : W.heap[gC]? = some (.cells (Array.replicate L (Value.int .i64 0)) 3))
    (ne : gB ≠ gC ∧ gB ≠ b5 ∧ gC ≠ b5) (hb : n + 3 ≤ gB) (hc : n + 3 ≤ gC) (h : n + 3 ≤ b5) (hL : L ≤ 96) : SvM W n L b5 gB gC (List.replicate L 0) (List.replicate L 0) :=
  ⟨cellOf h5 0, cellOf h5 1, own_zeros hB hb (by omega), own_zeros hC hc (by omega), ne, h, (Array.getElem?_eq_some_iff.1 h5).1⟩
theorem SvM.under {W W' : World} {n L b5 gB gC B : Nat} {bs v : List Int} (h : SvM W n L b5 gB gC bs v) (k : Below B W W') (h5 : b5 < B) (hB : gB < B) (hC : gC < B) : SvM W' n L b5 gB gC bs v := by
  have ho : ∀ {g : Nat} {zs : List Int}, g < B → Own .i64 3 W (n + 3) (.slice (some ⟨g, 0, none⟩) L L) zs → Own .i64 3 W' (n + 3) (.slice (some ⟨g, 0, none⟩) L L) zs := fun {g zs} hg O => by
    refine ⟨O.1, ?_⟩
    rcases O.2 with q | ⟨g', cap, cur, e1, e2, e3, e4⟩
    · exact Or.inl q
    · injection e1 with e1 a2 a3
      injection e1 with e1
      injection e1 with e1
      subst e1
      exact Or.inr ⟨g, cap, cur, by rw [← a2, ← a3], e2, (k.block g hg).trans e3, e4⟩
  exact ⟨(k.cell (p := ⟨b5, 0, none⟩) h5).trans h.c0, (k.cell (p := ⟨b5, 1, none⟩) h5).trans h.c1, ho hB h.ob, ho hC h.ov, h.ne, h.ge.1, Nat.lt_of_lt_of_le h.ge.2 k.size⟩
theorem SvM.lts {W : World} {n L b5 gB gC : Nat} {bs v : List Int} (h : SvM W n L b5 gB gC bs v) : (n + 3 ≤ gB ∧ gB < W.heap.size) ∧ (n + 3 ≤ gC ∧ gC < W.heap.size) := ⟨own_block h.ob rfl, own_block h.ov rfl⟩
theorem SvM.below {W W' : World} {n L b5 gB gC : Nat} {bs v : List Int} (h : SvM W n L b5 gB gC bs v) (k : Below W.heap.size W W') : SvM W' n L b5 gB gC bs v := h.under k h.ge.2 h.lts.1.2 h.lts.2.2
theorem SvM.setB {W : World} {n L b5 gB gC : Nat} {bs v : List Int} (h : SvM W n L b5 gB gC bs v) (y : Nat) (m : Int) (hl : bs.length = L) : SvM (W.setCell ⟨gB, y, none⟩ (.int .i64 m)) n L b5 gB gC (bs.set y m) v := by
  have n5 : ∀ i j, (⟨gB, i, none⟩ : Addr) ≠ ⟨b5, j, none⟩ := fun i j e => h.ne.2.1 (congrArg Addr.block e)
  refine ⟨by rw [World.cell?_setCell_other _ _ _ _ (n5 _ _)]; exact h.c0, by rw [World.cell?_setCell_other _ _ _ _ (n5 _ _)]; exact h.c1, h.ob.store hl.symm y m, ?_, h.ne, h.ge.1, by rw [World.size_setCell]; exact h.ge.2⟩
  refine h.ov.kept (row := some gB) ⟨rfl, rfl, rfl, by rw [World.size_setCell]; exact Nat.le_refl _, fun k hk hn => Below.heap_setCell _ _ _ _ (fun e => hn (by first | exact congrArg some e | exact congrArg some e.symm))⟩ (Or.inr ?_)
  intro e
  injection e with e
  exact h.ne.1 e.symm
theorem SvM.setC {W : World} {n L b5 gB gC : Nat} {bs v : List Int} (h : SvM W n L b5 gB gC bs v) (y : Nat) (m : Int) (hl : v.length = L) : SvM (W.setCell ⟨gC, y, none⟩ (.int .i64 m)) n L b5 gB gC bs (v.set y m) := by
  have n5 : ∀ i j, (⟨gC, i, none⟩ : Addr) ≠ ⟨b5, j, none⟩ := fun i j e => h.ne.2.2 (congrArg Addr.block e)
  refine ⟨by rw [World.cell?_setCell_other _ _ _ _ (n5 _ _)]; exact h.c0, by rw [World.cell?_setCell_other _ _ _ _ (n5 _ _)]; exact h.c1, ?_, h.ov.store hl.symm y m, h.ne, h.ge.1, by rw [World.size_setCell]; exact h.ge.2⟩
  refine h.ob.kept (row := some gC) ⟨rfl, rfl, rfl, by rw [World.size_setCell]; exact Nat.le_refl _, fun k hk hn => Below.heap_setCell _ _ _ _ (fun e => hn (by first | exact congrArg some e | exact congrArg some e.symm))⟩ (Or.inr ?_)
  intro e
  injection e with e
  exact h.ne.1 e
/-- What a round keeps, of the book-keeping too. -/
structure SvK (B n₀ Ba : Nat) (W W' : World) : Prop where
  kp : KpI n₀ Ba W W'
  kf : KeepsFrom B W W'
theorem SvK.refl {B n₀ Ba : Nat} (W : World) : SvK B n₀ Ba W W := ⟨KpI.refl W, KeepsFrom.refl _ _⟩
theorem SvK.below {B n₀ Ba : Nat} {X W W' : World} (h : SvK B n₀ Ba X W) (k : Below W.heap.size W W') (h0 : n₀ ≤ W.heap.size) (ha : Ba < W.heap.size) : SvK B n₀ Ba X W' :=
  ⟨h.kp.t (KpI.of_below k h0 ha), h.kf.trans ⟨k.size, fun i o _ hi _ => (k.block i (Array.getElem?_eq_some_iff.1 hi).1).trans hi⟩⟩
theorem SvK.set {B n₀ Ba : Nat} {X W : World} (h : SvK B n₀ Ba X W) {p : Addr} (h0 : n₀ ≤ p.block) (ha : p.block ≠ Ba) (u : Value) : SvK B n₀ Ba X (W.setCell p u) :=
  ⟨h.kp.set h0 ha u, h.kf.trans ((KeepsOthers.setCell _ _ _).from _)⟩
/-- A store into a block of the solution. -/
theorem SvA.setO {w wr : World} {n L c : Nat} {A : Option Addr} {wt : Int} (h : SvA w n A L c wt wr) {p : Addr} (hp : n + 3 ≤ p.block) (hn : w.heap.size ≤ n) (u : Value) : SvA w n A L c wt (wr.setCell p u) := by
  have k : Below (n + 3) wr (wr.setCell p u) := (Below.refl _ _).setCell hp u
  exact h.below k (by omega) (by omega)
def tl19 (i : Nat) : Bool := i == 19
theorem Own.underB {k : IntKind} {e : TypeId} {W W' : World} {base B : Nat} {v : Value} {zs : List Int} (h : Own k e W base v zs) (b : Below B W W') (hg : ∀ g, v.ownBlock = some g → g < B) : Own k e W' base v zs := by
  refine ⟨h.1, ?_⟩
  rcases h.2 with q | ⟨g, cap, cur, e1, e2, e3, e4⟩
  · exact Or.inl q
  · exact Or.inr ⟨g, cap, cur, e1, e2, (b.block g (hg g (by rw [e1]; rfl))).trans e3, e4⟩
/-- A store elsewhere. -/
theorem Own.setO {k : IntKind} {e : TypeId} {W : World} {base : Nat} {v : Value} {zs : List Int} (h : Own k e W base v zs) {p : Addr} (hp : p.block < base) (u : Value) : Own k e (W.setCell p u) base v zs := by
  refine h.kept (row := some p.block) ⟨rfl, rfl, rfl, by rw [World.size_setCell]; exact Nat.le_refl _, fun k hk hn => Below.heap_setCell _ _ _ _ (fun e => hn (by first | exact congrArg some e | exact congrArg some e.symm))⟩ (Or.inr ?_)
  intro e
  have := (own_block h e).1
  omega
/-- What holds at the end, while the marks are taken away. -/
structure SvF (w : World) (n B : Nat) (d : SD) (er : Int) (bs v : List Int) (W : World) : Prop where
  bel : Below w.heap.size w W
  c0 : W.cell? ⟨n + 1, 0, none⟩ = some (.slice d.1.1 d.1.2.1 d.1.2.2)
  c1 : W.cell? ⟨n + 1, 1, none⟩ = some (.slice d.2.1 d.2.2.1 d.2.2.2)
  c2 : W.cell? ⟨n + 1 + 1, 0, none⟩ = some (.int .i64 er)
  ob : Own .i64 3 W w.heap.size (.slice d.1.1 d.1.2.1 d.1.2.2) bs
  ov : Own .i64 3 W w.heap.size (.slice d.2.1 d.2.2.1 d.2.2.2) v
  lb : ∀ g, (Value.slice d.1.1 d.1.2.1 d.1.2.2).ownBlock = some g → g < B
  lv : ∀ g, (Value.slice d.2.1 d.2.2.1 d.2.2.2).ownBlock = some g → g < B
  sz : n + 1 + 1 < B ∧ w.heap.size ≤ B
theorem SvF.under {w : World} {n B : Nat} {d : SD} {er : Int} {bs v : List Int} {W W' : World} (h : SvF w n B d er bs v W) (k : Below B W W') : SvF w n B d er bs v W' :=
  ⟨h.bel.trans (k.mono h.sz.2), (k.cell (p := ⟨n + 1, 0, none⟩) (by have := h.sz.1; show n + 1 < B; omega)).trans h.c0, (k.cell (p := ⟨n + 1, 1, none⟩) (by have := h.sz.1; show n + 1 < B; omega)).trans h.c1, (k.cell (p := ⟨n + 1 + 1, 0, none⟩) h.sz.1).trans h.c2, h.ob.underB k h.lb, h.ov.underB k h.lv, h.lb, h.lv, h.sz⟩
theorem SvF.leaves {l : List It} {wt : Int} {w : World} {n B : Nat} {d : SD} {er : Int} {bs v : List Int} {W : World} (h : SvF w n B d er bs v W) (hW : B ≤ W.heap.size)
    (hp : (validR l wt ≠ 0 ∧ er = validR l wt ∧ v = [] ∧ bs = []) ∨ (validR l wt = 0 ∧ er = 15 ∧ v = [] ∧ bs = [] ∧ ∀ bs' v', ¬ Sol l wt bs' v') ∨ (validR l wt = 0 ∧ er = 0 ∧ Sol l wt bs v))
    {fn : Func} (hf : fn.results = #[.cell 2 77, .cell 3 33]) (tmps : Array Value) (h2 : tmps.getD 2 undef = .pointer (some ⟨n + 1, 0, none⟩)) (h3 : tmps.getD 3 undef = .pointer (some ⟨n + 1 + 1, 0, none⟩)) (ds : List Deferred) (hm : Mks B W ds) :
    LeavesInM Fence.wide 9 Try.prog fn tmps (SolvePost l wt w) ds .returning W := by
  refine leaves_marks (B := B) (J := fun W => SvF w n B d er bs v W ∧ B ≤ W.heap.size) ?_ ?_ ds W hm ⟨h, hW⟩
  · rintro W D o o' ⟨hJ, hs⟩ hD ho hc
    have g := grownBy_putObj' W D o'
    have k := (Below.refl B W).grown g hs (fun k e => by cases e; exact hD)
    exact ⟨hJ.under k, Nat.le_trans hs g.size⟩
  · rintro W ⟨hJ, _⟩
    exact ⟨_, results_sol hf tmps W _ _ d er h2 h3 hJ.c0 hJ.c1 hJ.c2, _, er, bs, v, rfl, hJ.ob, hJ.ov, hJ.bel, hp⟩
/-- What holds behind a beginning of the order. -/
structure SvI (l : List It) (wt : Int) (w : World) (n : Nat) (A : Option Addr) (L c b5 gB gC B : Nat) (pre : List (Ix l)) (W : World) : Prop where
  ex : ∃ bs v, SvA w n A L c wt W ∧ SvM W n L b5 gB gC bs v ∧ Nums L bs v ∧ Good l wt pre bs v
  sz : B ≤ W.heap.size
theorem SvI.under {l : List It} {wt : Int} {w : World} {n L c b5 gB gC B : Nat} {A : Option Addr} {pre : List (Ix l)} {W W' : World} (h : SvI l wt w n A L c b5 gB gC B pre W) (k : Below B W W') (h1 : n + 1 + 1 < B) (h2 : w.heap.size ≤ B) (h5 : b5 < B) (hB : gB < B) (hC : gC < B) : SvI l wt w n A L c b5 gB gC B pre W' := by
  obtain ⟨⟨bs, v, a1, a2, a3, a4⟩, hs⟩ := h
  exact ⟨⟨bs, v, a1.below k h1 h2, a2.under k h5 hB hC, a3, a4⟩, Nat.le_trans hs k.size⟩
/-- What holds where some item has no code. -/
structure SvX (l : List It) (wt : Int) (w : World) (n B : Nat) (pre : List (Ix l)) (W : World) : Prop where
  bel : Below w.heap.size w W
  c0 : W.cell? ⟨n + 1, 0, none⟩ = some (.slice none 0 0)
  c1 : W.cell? ⟨n + 1, 1, none⟩ = some (.slice none 0 0)
  c2 : W.cell? ⟨n + 1 + 1, 0, none⟩ = some (.int .i64 15)
  no : pre <+: ordN l 32 → ∀ bs v, ¬ Sol l wt bs v
  sz : B ≤ W.heap.size
theorem SvX.under {l : List It} {wt : Int} {w : World} {n B : Nat} {pre : List (Ix l)} {W W' : World} (h : SvX l wt w n B pre W) (k : Below B W W') (h1 : n + 1 + 1 < B) (h2 : w.heap.size ≤ B) : SvX l wt w n B pre W' :=
  ⟨h.bel.trans (k.mono h2), (k.cell (p := ⟨n + 1, 0, none⟩) (by show n + 1 < B; omega)).trans h.c0, (k.cell (p := ⟨n + 1, 1, none⟩) (by show n + 1 < B; omega)).trans h.c1, (k.cell (p := ⟨n + 1 + 1, 0, none⟩) h1).trans h.c2, h.no, Nat.le_trans h.sz k.size⟩
set_option maxRecDepth 100000 in
set_option maxHeartbeats 6400000 in
theorem solve_any (l : List It) (A : Option Addr) (c L : Nat) (wt : Int) (hL : L = l.length) (w : World) (h : IRow w A l) :
    Calls Try.prog 42 #[jv A L c wt] w (SolvePost l wt w) := by
  have H := Lib.hid h
  have HL := Lib.hid hL
  have HVL := Lib.hid (fun (W : World) (k : IRow W A l) => valid_any l A c wt W k)
  rw [← hL] at HVL
  have S0 := Lib.hid (SvA.new (w := w) (A := A) (L := L) (c := c) (wt := wt))
  obtain ⟨n, hn⟩ : ∃ n, n = w.heap.size := ⟨_, rfl⟩
  have HN := Lib.hid hn
  clear h hL
  refine (callsIn_wide (n := 9)).1 ?_
  refine callsIn_of_wp_marks Try.func42 rfl trivial ?_ rfl
  simp only [Try.ntmps42, List.size_toArray, List.length_cons, List.length_nil, Nat.reduceAdd, Nat.reduceSub, Array.replicate_succ, Array.replicate_zero, List.push_toArray, List.append_toArray, List.nil_append, List.cons_append]
  refine wpIn_wide.2 ?_
  go_upto_region 1 with fail
  rw [← hn] at S0 ⊢
  generalize ((w.alloc (.cells #[.slice A L c, .int .i64 wt] 24)).alloc (.cells #[.slice none 0 0, .slice none 0 0] 77)).alloc (.cells #[.int .i64 0] 33) = w1 at *
  clear hn
  obtain ⟨j0, j1, jl⟩ := S0.out.box
  go_wp2_with fail
  refine (HVL.out w1 (H.out.below S0.out.bel)).mono ?_
  rintro e w2 ⟨rfl, hB2⟩
  have S2 := Lib.hid (S0.out.below hB2 S0.out.lt S0.out.bel.size)
  clear j0 j1 jl S0 hB2 HVL
  obtain ⟨j0, j1, jl⟩ := S2.out.box
  have c20 := S2.out.c20
  have c21 := S2.out.c21
  have c3 := S2.out.c3
  have f20 := S2.out.f2 0
  have f21 := S2.out.f2 1
  have f30 := S2.out.f3 0
  by_cases he : validR l wt = 0
  · obtain ⟨p1, p2, p3⟩ := valid_ok he
    have HE := Lib.hid he
    rw [he]
    rw [← HL.out] at p1
    have hmk := fun W => make_ints W L (by omega)
    clear he p2 p3 c20 c21 c3 f20 f21 f30
    go_upto_region 4 with fail
    go_cut [5] from 16 to 24 (fun pv wx => ∃ b5 gB gC, pv = .pointer (some ⟨b5, 0, none⟩) ∧ Hid (SvM wx n L b5 gB gC (List.replicate L 0) (List.replicate L 0)) ∧ Hid (Below w2.heap.size w2 wx))
    case first =>
      go_region
      all_goals
        have hlt2 := S2.out.lt
        go_wp2_with fail
        go_meet
        case rel =>
          refine ⟨_, _, _, rfl, Lib.hid (SvM.laid (by first | exact (al3 _ _ _ _).1 | exact (al3 _ _ _ _).2.1 | exact (al3 _ _ _ _).2.2) (by first | exact (al3 _ _ _ _).1 | exact (al3 _ _ _ _).2.1 | exact (al3 _ _ _ _).2.2) (by first | exact (al3 _ _ _ _).1 | exact (al3 _ _ _ _).2.1 | exact (al3 _ _ _ _).2.2) ⟨by omega, by omega, by omega⟩ (by omega) (by omega) (by omega) p1), Lib.hid (bel3 _ _ _ _)⟩
    case rest =>
      obtain ⟨b5, gB, gC, rfl, M, B3⟩ := hcut
      have S3 := Lib.hid (S2.out.below B3.out S2.out.lt S2.out.bel.size)
      clear B3 j0 j1 jl hmk
      rename_i hK
      obtain ⟨j0, j1, jl⟩ := S3.out.box
      have HB := Lib.hid (byB_any A L c wc)
      go_wp2_with fail
      refine HB.out.mono ?_
      rintro e w3 ⟨rfl, hw3⟩
      have b4 : Below wc.heap.size wc w3 := by rw [hw3]; exact (Below.refl _ _).alloc (Nat.le_refl _) _
      have pA : w3.heap[wc.heap.size]? = some (.cells #[.slice A L c] 22) := by rw [hw3]; exact World.alloc_heap_new wc _
      have s4 : w3.heap.size = wc.heap.size + 1 := by rw [hw3]; simp
      have S4 := Lib.hid (S3.out.below b4 S3.out.lt S3.out.bel.size)
      have M4 := Lib.hid (M.out.below b4)
      clear j0 j1 jl hw3 b4 HB
      have H4 := Lib.hid pA
      obtain ⟨Ba, hBa⟩ : ∃ Ba, Ba = wc.heap.size := ⟨_, rfl⟩
      rw [← hBa] at s4 H4
      clear pA
      go_wp2_with fail
      rw [← hBa]
      refine (wpIn_wide (n := 9)).1 ?_
      obtain ⟨B, hB⟩ : ∃ B, B = w3.heap.size := ⟨_, rfl⟩
      have HBS := Lib.hid hB
      have LTS := Lib.hid M.out.lts
      have GE5 := Lib.hid M.out.ge
      have NE := Lib.hid M.out.ne
      have hcA : w3.cell? ⟨Ba, 0, none⟩ = some (.slice A L c) := cellOf H4.out 0
      rw [HL.out] at hcA
      have hnw := S4.out.bel.size
      have HBa := Lib.hid hBa
      have HPR := Lib.hid (KpI.put (n₀ := w.heap.size) (Ba := Ba) hnw (by rw [s4]; omega))
      have LTB := Lib.hid (show gB < Ba ∧ gC < Ba ∧ b5 < Ba ∧ n + 1 + 1 < Ba ∧ w3.heap.size = Ba + 1 by rw [hBa]; exact ⟨LTS.out.1.2, LTS.out.2.2, GE5.out.2, S3.out.lt, by rw [s4, hBa]⟩)
      clear hBa hB s4
      refine wpIn_range1 (p := 28) (q := 6) (gf := 71) (lb := #[.pointer (some ⟨Ba, 0, none⟩)]) (by decide) rfl (enters_of Try.func71 (by kernel_rfl) rfl)
        (val := fun z : Ix l => .int .i64 (z.1 : Int)) (bb_stops 8 (by decide) l A c Ba w.heap.size (by rw [← HL.out]; exact p1) w3 hcA hnw (H.out.row.under S4.out.bel))
        KpI.refl (fun h k => h.t k) HPR.out (Below.refl _ _)
        (SvI l wt w n A L c b5 gB gC w3.heap.size) (fun co pre W => co = .ret ∧ SvX l wt w n w3.heap.size pre W)
        (ownFrom_stable (fun _ _ h => h.sz) (fun _ _ _ h k => h.under k (by have := S4.out.lt; omega) hnw (by have := LTB.out; omega) (by have := LTB.out; omega) (by have := LTB.out; omega)))
        (fun co => ownFrom_stable (fun _ _ h => h.2.sz) (fun _ _ _ h k => ⟨h.1, h.2.under k (by have := S4.out.lt; omega) hnw⟩))
        ⟨⟨_, _, S4.out, M4.out, Nums.zero L, by rw [HL.out]; exact Good.start l wt⟩, Nat.le_refl _⟩ ?assign ?body ?done ?stop
      case assign =>
        intro lo x W K hK
        simp only [List.setIfInBounds_toArray, List.set_cons_succ, List.set_cons_zero] at hK ⊢
        gi_wp2
        exact hK
      case body =>
        rintro lo pre ⟨y, hyl⟩ W ⟨⟨bs, v, a1, a2, a3, a4⟩, hsz⟩ -
        simp only [List.setIfInBounds_toArray, List.set_cons_succ, List.set_cons_zero]
        have hy : y < L := by rw [HL.out]; exact hyl
        have HA := Lib.hid a1
        have HM := Lib.hid a2
        have HNm := Lib.hid a3
        have HG := Lib.hid a4
        have hNL := H4.out
        clear a1 a2 a3 a4 hNL hcA
        obtain ⟨j0, j1, jl⟩ := HA.out.box
        have HSZ := Lib.hid hsz
        gi_wp2
        clear j0 j1 jl
        have hm0 := Lib.hid (set_self (zs := bs) (y := y) (by rw [HNm.out.bl]; exact hy))
        have HBM := Lib.hid (fun k => bmx_bd (l := l) (y := y) HNm.out.vb (HNm.out.bb y) k)
        have hst0 := Lib.hid (show SvM W n L b5 gB gC (bs.set y (bmx l v y (bs.getD y 0) 0)) v by
          show SvM W n L b5 gB gC (bs.set y (bs.getD y 0)) v
          rw [hm0.out]; exact HM.out)
        gi_loopw [32] (fun i wi => ∃ k : Nat, k ≤ L ∧ i = .int .i64 (k : Int) ∧ Hid (SvA w n A L c wt wi) ∧ Hid (SvM wi n L b5 gB gC (bs.set y (bmx l v y (bs.getD y 0) k)) v) ∧ Hid (SvK w3.heap.size w.heap.size Ba W wi)) (fun i _ => L - (intOf i).toNat)
        case atStart => exact ⟨0, by omega, rfl, HA, hst0, Lib.hid (SvK.refl W)⟩
        case round =>
          clear HA hst0 HM
          obtain ⟨k, hk, rfl, HA, HM, HK⟩ := hrel
          by_cases hlk : k < L
          · have HLB := Lib.hid (fun (W' : World) (kb : Below wr.heap.size wr W') => lb_any l A c L wt HL.out HE.out k y (v.getD k 0) (by have := HNm.out.vb k; omega) hlk hy W' (H.out.below (HA.out.bel.trans (kb.mono HA.out.bel.size))))
            have c0 := HM.out.c0
            have c1 := HM.out.c1
            have hLs : (bs.set y (bmx l v y (bs.getD y 0) k)).length = L := by rw [List.length_set]; exact HNm.out.bl
            have d0 := HM.out.ob.cell hLs.symm y (by rw [hLs]; exact hy)
            rw [getDset (by rw [HNm.out.bl]; exact hy), if_pos rfl] at d0
            have fz := HM.out.ob.frozen hLs.symm y
            have e0 := HM.out.ov.cell HNm.out.vl.symm k (by rw [HNm.out.vl]; exact hlk)
            obtain ⟨j0, j1, jl⟩ := HA.out.box
            have hM2 : bmx l v y (bs.getD y 0) (k + 1) = max2 (bmx l v y (bs.getD y 0) k) (vk (rel l k y) (v.getD k 0)) := rfl
            obtain ⟨m0, hm0'⟩ : ∃ m, m = bmx l v y (bs.getD y 0) k := ⟨_, rfl⟩
            obtain ⟨vk0, hvk⟩ : ∃ m, m = v.getD k 0 := ⟨_, rfl⟩
            have HM0 := Lib.hid hm0'
            rw [← hm0'] at d0 hM2
            rw [← hvk] at e0 hM2 HLB
            obtain ⟨lb, hlb⟩ : ∃ m, m = vk (rel l k y) vk0 := ⟨_, rfl⟩
            rw [← hlb] at hM2 HLB
            have HM2 := Lib.hid hM2
            obtain ⟨m2, hm2⟩ : ∃ m, m = max2 m0 lb := ⟨_, rfl⟩
            have hmx : ∀ w ts t, (Builtin.max_ ts t #[.int .i64 m0, .int .i64 lb]).run Try.prog w = .ok (.int .i64 m2) w := fun w ts t => by rw [run_max2, hm2]
            have HM3 := Lib.hid (show bmx l v y (bs.getD y 0) (k + 1) = m2 by rw [HM2.out, hm2])
            have hyi : (y : Int) < (L : Int) := by omega
            have hki : (k : Int) < (L : Int) := by omega
            clear hM2 hm0' hvk hlb hm2 hLs
            have lt5 : b5 < wr.heap.size := lt_of_cell c0
            have ltB : gB < wr.heap.size := lt_of_cell d0
            have ltC : gC < wr.heap.size := lt_of_cell e0
            have HPS := Lib.hid (fun (X : World) (hX : Below wr.heap.size wr X) => (show X.cell? ⟨b5, 0, none⟩ = some (.slice (some ⟨gB, 0, none⟩) L L) ∧ X.cell? ⟨b5, 1, none⟩ = some (.slice (some ⟨gC, 0, none⟩) L L) ∧ X.cell? ⟨gB, y, none⟩ = some (.int .i64 m0) ∧ X.cell? ⟨gC, k, none⟩ = some (.int .i64 vk0) ∧ X.cell? ⟨n, 0, none⟩ = some (.slice A L c) ∧ X.cell? ⟨n, 1, none⟩ = some (.int .i64 wt) from
              ⟨(hX.cell (p := ⟨b5, 0, none⟩) lt5).trans c0, (hX.cell (p := ⟨b5, 1, none⟩) lt5).trans c1, (hX.cell (p := ⟨gB, y, none⟩) ltB).trans d0, (hX.cell (p := ⟨gC, k, none⟩) ltC).trans e0, (hX.cell (p := ⟨n, 0, none⟩) jl).trans j0, (hX.cell (p := ⟨n, 1, none⟩) jl).trans j1⟩))
            have HFZ := Lib.hid (fun (X : World) (hX : Below wr.heap.size wr X) => (hX.frozen (p := ⟨gB, y, none⟩) ltB).trans fz)
            have HST := Lib.hid (fun (X : World) (hX : Below wr.heap.size wr X) => (show SvM (X.setCell ⟨gB, y, none⟩ (.int .i64 m2)) n L b5 gB gC (bs.set y (bmx l v y (bs.getD y 0) (k + 1))) v from by
              have q := (HM.out.below hX).setB y m2 (by rw [List.length_set]; exact HNm.out.bl)
              rw [List.set_set] at q
              rw [HM3.out]
              exact q))
            clear c0 c1 d0 e0 fz lt5 ltB ltC j0 j1 jl
            gi_upto_region 10 with fail
            obtain ⟨q0, e0⟩ : ∃ x, x = wr.drew := ⟨_, rfl⟩
            have K0 := Lib.hid (show Below wr.heap.size wr q0 from by rw [e0]; exact (Below.refl _ _).drew)
            have F0 := HPS.out q0 K0.out
            have HE0 := Lib.hid e0
            clear e0
            refine AnyT.round_at tl19 (fun X => X.cell? ⟨b5, 0, none⟩ = some (.slice (some ⟨gB, 0, none⟩) L L) ∧ X.cell? ⟨b5, 1, none⟩ = some (.slice (some ⟨gC, 0, none⟩) L L) ∧ X.cell? ⟨gB, y, none⟩ = some (.int .i64 m0) ∧ X.cell? ⟨gC, k, none⟩ = some (.int .i64 vk0) ∧ X.cell? ⟨n, 0, none⟩ = some (.slice A L c) ∧ X.cell? ⟨n, 1, none⟩ = some (.int .i64 wt)) (by kernel_rfl) (by kernel_rfl) (fun _ _ h => h) HE0.out F0 ?_
            clear F0
            intro F0
-- TAKES
            refine AnyT.takeD (i := 0) (d := some 35) (v := .pointer (some ⟨b5, 0, none⟩)) rfl rfl (by kernel_rfl) (by kernel_rfl) (by kernel_rfl) (by kernel_rfl) (fun _ _ _ h => h) (Or.inl ⟨by rfl, fun wz _ => by go_simp⟩) F0 ?_
            simp only [Act.put, List.setIfInBounds_toArray, List.set_cons_zero, List.set_cons_succ]
            refine AnyT.takeD (i := 1) (d := some 36) (v := .slice (some ⟨gB, 0, none⟩) L L) rfl rfl (by kernel_rfl) (by kernel_rfl) (by kernel_rfl) (by kernel_rfl) (fun _ _ _ h => h) (Or.inl ⟨by rfl, fun wz hz => by obtain ⟨z0, z1, z2, z3, z4, z5⟩ := hz; go_simp⟩) F0 ?_
            simp only [Act.put, List.setIfInBounds_toArray, List.set_cons_zero, List.set_cons_succ]
            refine AnyT.takeD (i := 2) (d := some 37) (v := .int .i64 (y : Int)) rfl rfl (by kernel_rfl) (by kernel_rfl) (by kernel_rfl) (by kernel_rfl) (fun _ _ _ h => h) (Or.inl ⟨by rfl, fun wz _ => by go_simp⟩) F0 ?_
            simp only [Act.put, List.setIfInBounds_toArray, List.set_cons_zero, List.set_cons_succ]
            refine AnyT.takeD (i := 3) (d := some 38) (v := .pointer (some ⟨b5, 0, none⟩)) rfl rfl (by kernel_rfl) (by kernel_rfl) (by kernel_rfl) (by kernel_rfl) (fun _ _ _ h => h) (Or.inl ⟨by rfl, fun wz _ => by go_simp⟩) F0 ?_
            simp only [Act.put, List.setIfInBounds_toArray, List.set_cons_zero, List.set_cons_succ]
            refine AnyT.takeD (i := 4) (d := some 39) (v := .slice (some ⟨gB, 0, none⟩) L L) rfl rfl (by kernel_rfl) (by kernel_rfl) (by kernel_rfl) (by kernel_rfl) (fun _ _ _ h => h) (Or.inl ⟨by rfl, fun wz hz => by obtain ⟨z0, z1, z2, z3, z4, z5⟩ := hz; go_simp⟩) F0 ?_
            simp only [Act.put, List.setIfInBounds_toArray, List.set_cons_zero, List.set_cons_succ]
            refine AnyT.takeD (i := 5) (d := some 40) (v := .int .i64 (y : Int)) rfl rfl (by kernel_rfl) (by kernel_rfl) (by kernel_rfl) (by kernel_rfl) (fun _ _ _ h => h) (Or.inl ⟨by rfl, fun wz _ => by go_simp⟩) F0 ?_
            simp only [Act.put, List.setIfInBounds_toArray, List.set_cons_zero, List.set_cons_succ]
            refine AnyT.takeD (i := 6) (d := some 41) (v := .pointer (some ⟨gB, y, none⟩)) rfl rfl (by kernel_rfl) (by kernel_rfl) (by kernel_rfl) (by kernel_rfl) (fun _ _ _ h => h) (Or.inl ⟨by rfl, fun wz _ => by go_simp⟩) F0 ?_
            simp only [Act.put, List.setIfInBounds_toArray, List.set_cons_zero, List.set_cons_succ]
            refine AnyT.takeD (i := 7) (d := some 42) (v := .int .i64 m0) rfl rfl (by kernel_rfl) (by kernel_rfl) (by kernel_rfl) (by kernel_rfl) (fun _ _ _ h => h) (Or.inl ⟨by rfl, fun wz hz => by obtain ⟨z0, z1, z2, z3, z4, z5⟩ := hz; go_simp⟩) F0 ?_
            simp only [Act.put, List.setIfInBounds_toArray, List.set_cons_zero, List.set_cons_succ]
            refine AnyT.takeD (i := 8) (d := some 43) (v := jv A L c wt) rfl rfl (by kernel_rfl) (by kernel_rfl) (by kernel_rfl) (by kernel_rfl) (fun _ _ _ h => h) (Or.inl ⟨by rfl, fun wz hz => by obtain ⟨z0, z1, z2, z3, z4, z5⟩ := hz; go_simp⟩) F0 ?_
            simp only [Act.put, List.setIfInBounds_toArray, List.set_cons_zero, List.set_cons_succ]
            refine AnyT.takeD (i := 9) (d := some 44) (v := .int .i64 (k : Int)) rfl rfl (by kernel_rfl) (by kernel_rfl) (by kernel_rfl) (by kernel_rfl) (fun _ _ _ h => h) (Or.inl ⟨by rfl, fun wz _ => by go_simp⟩) F0 ?_
            simp only [Act.put, List.setIfInBounds_toArray, List.set_cons_zero, List.set_cons_succ]
            refine AnyT.takeD (i := 10) (d := some 45) (v := .pointer (some ⟨b5, 1, none⟩)) rfl rfl (by kernel_rfl) (by kernel_rfl) (by kernel_rfl) (by kernel_rfl) (fun _ _ _ h => h) (Or.inl ⟨by rfl, fun wz _ => by go_simp⟩) F0 ?_
            simp only [Act.put, List.setIfInBounds_toArray, List.set_cons_zero, List.set_cons_succ]
            refine AnyT.takeD (i := 11) (d := some 46) (v := .slice (some ⟨gC, 0, none⟩) L L) rfl rfl (by kernel_rfl) (by kernel_rfl) (by kernel_rfl) (by kernel_rfl) (fun _ _ _ h => h) (Or.inl ⟨by rfl, fun wz hz => by obtain ⟨z0, z1, z2, z3, z4, z5⟩ := hz; go_simp⟩) F0 ?_
            simp only [Act.put, List.setIfInBounds_toArray, List.set_cons_zero, List.set_cons_succ]
            refine AnyT.takeD (i := 12) (d := some 47) (v := .int .i64 (k : Int)) rfl rfl (by kernel_rfl) (by kernel_rfl) (by kernel_rfl) (by kernel_rfl) (fun _ _ _ h => h) (Or.inl ⟨by rfl, fun wz _ => by go_simp⟩) F0 ?_
            simp only [Act.put, List.setIfInBounds_toArray, List.set_cons_zero, List.set_cons_succ]
            refine AnyT.takeD (i := 13) (d := some 48) (v := .pointer (some ⟨gC, k, none⟩)) rfl rfl (by kernel_rfl) (by kernel_rfl) (by kernel_rfl) (by kernel_rfl) (fun _ _ _ h => h) (Or.inl ⟨by rfl, fun wz _ => by go_simp⟩) F0 ?_
            simp only [Act.put, List.setIfInBounds_toArray, List.set_cons_zero, List.set_cons_succ]
            refine AnyT.takeD (i := 14) (d := some 49) (v := .int .i64 vk0) rfl rfl (by kernel_rfl) (by kernel_rfl) (by kernel_rfl) (by kernel_rfl) (fun _ _ _ h => h) (Or.inl ⟨by rfl, fun wz hz => by obtain ⟨z0, z1, z2, z3, z4, z5⟩ := hz; go_simp⟩) F0 ?_
            simp only [Act.put, List.setIfInBounds_toArray, List.set_cons_zero, List.set_cons_succ]
            refine AnyT.takeD (i := 15) (d := some 50) (v := .int .i64 (y : Int)) rfl rfl (by kernel_rfl) (by kernel_rfl) (by kernel_rfl) (by kernel_rfl) (fun _ _ _ h => h) (Or.inl ⟨by rfl, fun wz _ => by go_simp⟩) F0 ?_
            simp only [Act.put, List.setIfInBounds_toArray, List.set_cons_zero, List.set_cons_succ]
            -- TAKEN
            refine AnyT.branch (rs := [16]) (by kernel_rfl) (by simp) ?_
            refine all_cons (?_) all_nil
            refine AnyT.enter (i := 16) (d := some 51) (f := 57) (args := #[jv A L c wt, .int .i64 (k : Int), .int .i64 vk0, .int .i64 (y : Int)]) rfl rfl rfl (by go_simp) (HLB.out q0 K0.out) ?_
            rintro e q1 ⟨rfl, hB1⟩
            have K1 := Lib.hid (K0.out.trans (hB1.mono K0.out.size))
            have F1 := HPS.out q1 K1.out
            refine ⟨_, rfl, fun _ => F1, ?_⟩
            clear hB1 F0
            simp only [Act.put, List.setIfInBounds_toArray, List.set_cons_zero, List.set_cons_succ]
            refine AnyT.takeD (i := 17) (d := some 52) (v := .int .i64 m2) rfl rfl (by kernel_rfl) (by kernel_rfl) (by kernel_rfl) (by kernel_rfl) (fun _ _ _ h => h) (Or.inl ⟨by rfl, fun wz _ => by go_simp⟩) F1 ?_
            simp only [Act.put, List.setIfInBounds_toArray, List.set_cons_zero, List.set_cons_succ]
            refine AnyT.takeD (i := 18) (d := some 53) (v := .pointer (some ⟨gB, y, none⟩)) rfl rfl (by kernel_rfl) (by kernel_rfl) (by kernel_rfl) (by kernel_rfl) (fun _ _ _ h => h) (Or.inl ⟨by rfl, fun wz _ => by go_simp⟩) F1 ?_
            simp only [Act.put, List.setIfInBounds_toArray, List.set_cons_zero, List.set_cons_succ]
            refine AnyT.branch (rs := [19]) (by kernel_rfl) (by simp) ?_
            refine all_cons ?_ all_nil
            refine AnyT.step (i := 19) rfl (fun KK hK => ?_)
            obtain ⟨z0, z1, z2, z3, z4, z5⟩ := F1
            have fz := HFZ.out q1 K1.out
            have A1 := HA.out.below K1.out HA.out.lt HA.out.bel.size
            have HA2 := Lib.hid (A1.setO (p := ⟨gB, y, none⟩) (by have := LTS.out.1.1; show n + 3 ≤ gB; omega) (by have := HN.out; omega) (.int .i64 m2))
            have HM2 := Lib.hid (HST.out q1 K1.out)
            have HK2 := Lib.hid ((HK.out.below K1.out HA.out.bel.size (by have := HK.out.kp.size; have := HSZ.out; have := LTB.out; omega)).set (p := ⟨gB, y, none⟩) (by have := LTS.out.1.1; have := HN.out; show _ ≤ gB; omega) (by have := LTB.out; show gB ≠ Ba; omega) (.int .i64 m2))
            clear A1 HPS HFZ HST HLB HM HA HK
            go_simp
            refine hK.out _ _ (fun h => absurd h (by decide)) ?_
            clear hK KK fz z0 z1 z2 z3 z4 z5 hmx
            refine AnyT.done_ (by kernel_rfl) ?_ _
            gi_wp2
            go_roundw
            case rel => exact ⟨k + 1, by omega, by simp, HA2, HM2, HK2⟩
            case measure => simp [intOf]; omega
          · have hkL : k = L := by omega
            subst hkL
            have hIR : IRow wr A l := H.out.below HA.out.bel
            obtain ⟨ad, rfl, C⟩ := hIR.at_ y hyl
            obtain ⟨-, -, r2, -⟩ := C.spelt
            replace r2 : wr.cell? ⟨(ad.add (y * 4)).block, (ad.add (y * 4)).off + 2, none⟩ = some (.int .i64 (rnd l y)) := r2
            have c0 := HM.out.c0
            have hLs : (bs.set y (bmx l v y (bs.getD y 0) k)).length = k := by rw [List.length_set]; exact HNm.out.bl
            have d0 := HM.out.ob.cell hLs.symm y (by rw [hLs]; exact hy)
            rw [getDset (by rw [HNm.out.bl]; exact hy), if_pos rfl] at d0
            obtain ⟨j0, j1, jl⟩ := HA.out.box
            have hmb := HBM.out k
            have HFO := Lib.hid (formOk_of HE.out)
            have hrb := HFO.out.rb y hyl
            have HNX := Lib.hid (fun (kk : Int) => next_bd (n := bmx l v y (bs.getD y 0) k) (r := rnd l y) (wt := wt) (k := kk) hmb.1 hrb HFO.out.wb)
            have HNE := Lib.hid (next_err (n := bmx l v y (bs.getD y 0) k) (r := rnd l y) (wt := wt) hmb.1 hrb HFO.out.wb)
            have NR := Lib.hid (fun W => next_code (bmx l v y (bs.getD y 0) k) (rnd l y) wt W (by omega))
            have HGS := Lib.hid (fun kk hk => HG.out.stepN HL.out HFO.out.blk hyl (k := kk) hk)
            have HGF := Lib.hid (HG.out.failN HL.out HFO.out.blk hyl)
            obtain ⟨⟨kk, er⟩, hnz⟩ : ∃ t, t = nextZ (bmx l v y (bs.getD y 0) k) (rnd l y) wt := ⟨_, rfl⟩
            have HNZ := Lib.hid hnz
            rw [← hnz] at NR HNX HNE
            have hyi : (y : Int) < (k : Int) := by omega
            clear hIR C hnz hLs
            obtain ⟨mb, hmbe⟩ : ∃ m, m = bmx l v y (bs.getD y 0) k := ⟨_, rfl⟩
            have HMB := Lib.hid hmbe
            rw [← hmbe] at d0 NR hmb
            clear hmbe hk hlk HG
            generalize rnd l y = rr at *
            gi_wp2
            try dsimp only
            refine wpIn_region_quiet_round lo rfl (by kernel_rfl) (by kernel_rfl) (by kernel_rfl) ?_
            repeat (gi_big_quiet_step (fail))
            refine Go.BigFrame.wpQuietIn_want (fun _ _ _ _ => trivial) (Eq.refl true) ?_
            intro K hK
            gi_big_quiet_op
            gi_big_quiet_call ((gi_at_call 58; exact CallsIn.quiet_of_same (callsIn_wide.2 ((NR.out _).mono fun _ _ h => ⟨h.1, h.2.symm⟩))))
            repeat (gi_big_quiet_step (fail))
            refine wpQuietIn_nil ?_
            intro _ hw'
            obtain ⟨nq, hw''⟩ := hw'
            subst hw''
            clear c0 d0 j0 j1 r2
            have BQ : Below wr.heap.size wr (wr.drewN nq) := bdn (Below.refl _ _)
            have HA3 := Lib.hid (HA.out.below BQ HA.out.lt HA.out.bel.size)
            have HM3 := Lib.hid (HM.out.below BQ)
            have HK3 := Lib.hid (HK.out.below BQ HA.out.bel.size (by have := HK.out.kp.size; have := HSZ.out; have := LTB.out; omega))
            have HSZ3 := Lib.hid (show w3.heap.size ≤ (wr.drewN nq).heap.size from Nat.le_trans HSZ.out (HK.out.kp.size))
            clear BQ HA HM HK NR
            generalize wr.drewN nq = wq at *
            by_cases hez : er = 0
            · subst hez
              have HBD := Lib.hid (HNX.out kk rfl)
              have hgs := HGS.out kk HNZ.out.symm
              have HGS2 := Lib.hid hgs
              have c1 := HM3.out.c1
              have hvl := HNm.out.vl
              have e0 := HM3.out.ov.cell hvl.symm y (by rw [hvl]; exact hy)
              have fz := HM3.out.ov.frozen hvl.symm y
              have HA4 := Lib.hid (HA3.out.setO (p := ⟨gC, y, none⟩) (by have := LTS.out.2.1; show n + 3 ≤ gC; omega) (by have := HN.out; omega) (.int .i64 kk))
              have HM4 := Lib.hid (HM3.out.setC y kk hvl)
              have HK4 := Lib.hid (HK3.out.set (p := ⟨gC, y, none⟩) (by have := LTS.out.2.1; have := HN.out; show _ ≤ gC; omega) (by have := LTB.out; show gC ≠ Ba; omega) (.int .i64 kk))
              have HN4 := Lib.hid (HNm.out.put hy (M := mb) hmb (by have := HBD.out; have := HMB.out; omega : 0 ≤ kk ∧ kk ≤ 4095))
              rw [HMB.out] at HN4
              have HSZ4 := Lib.hid (show w3.heap.size ≤ (wq.setCell ⟨gC, y, none⟩ (.int .i64 kk)).heap.size by rw [World.size_setCell]; exact HSZ3.out)
              clear HGS HGF HNX HNE hgs HA3 HM3 HK3 hvl
              gi_wp2
              exact ⟨HK4.out.kf, HK4.out.kp, ⟨_, _, HA4.out, HM4.out, HN4.out, HGS2.out⟩, HSZ4.out⟩
            · have hne := HNE.out hez
              have hkk : er = 15 := by injection hne
              subst hkk
              have HNO := Lib.hid (HGF.out (by rw [← HNZ.out]; show (15 : Int) ≠ 0; omega))
              have P := Lib.hid (HA3.out.put (by have := HN.out; omega) ((none, 0, 0), (none, 0, 0)) 15)
              have c20 := HA3.out.c20
              have c21 := HA3.out.c21
              have c3 := HA3.out.c3
              have f20 := HA3.out.f2 0
              have f21 := HA3.out.f2 1
              have f30 := HA3.out.f3 0
              have HK4 := Lib.hid (((HK3.out.set (p := ⟨n + 1, 0, none⟩) (by have := HN.out; show _ ≤ n + 1; omega) (by have := LTB.out; show n + 1 ≠ Ba; omega) (.slice none 0 0)).set (p := ⟨n + 1, 1, none⟩) (by have := HN.out; show _ ≤ n + 1; omega) (by have := LTB.out; show n + 1 ≠ Ba; omega) (.slice none 0 0)).set (p := ⟨n + 1 + 1, 0, none⟩) (by have := HN.out; show _ ≤ n + 1 + 1; omega) (by have := LTB.out; show n + 1 + 1 ≠ Ba; omega) (.int .i64 15))
              have HSZ4 := Lib.hid (show w3.heap.size ≤ (((wq.setCell ⟨n + 1, 0, none⟩ (.slice none 0 0)).setCell ⟨n + 1, 1, none⟩ (.slice none 0 0)).setCell ⟨n + 1 + 1, 0, none⟩ (.int .i64 15)).heap.size by rw [World.size_setCell, World.size_setCell, World.size_setCell]; exact HSZ3.out)
              clear HGS HGF HNX HNE hne HA3 HM3 HK3
              gi_wp2
              exact ⟨HK4.out.kf, rfl, P.out.1, P.out.2.1, P.out.2.2.1, P.out.2.2.2, HNO.out, HSZ4.out⟩
      case done =>
        intro D zs W hD hzs hI hD2
        obtain ⟨⟨bs, v, a1, a2, a3, a4⟩, hsz⟩ := hI
        rw [hzs] at a4
        clear hzs
        have HSOL := Lib.hid (a4.done (formOk_of HE.out).blk)
        have P := Lib.hid (a1.put (by have := HN.out; omega) ((some ⟨gB, 0, none⟩, L, L), (some ⟨gC, 0, none⟩, L, L)) 0)
        have HOB := Lib.hid a2.ob
        have HOV := Lib.hid a2.ov
        have c20 := a1.c20
        have c21 := a1.c21
        have c3 := a1.c3
        have f20 := a1.f2 0
        have f21 := a1.f2 1
        have f30 := a1.f3 0
        have c0 := a2.c0
        have c1 := a2.c1
        have HD := Lib.hid (And.intro hD (And.intro hsz hD2))
        clear a1 a2 a3 a4 hcA hD2 hsz hD
        gi_wp2
        go_wp2_with fail
        have hlb := LTB.out
        have hnn := HN.out
        refine SvF.leaves (B := w3.heap.size) (n := n) (d := ((some ⟨gB, 0, none⟩, L, L), (some ⟨gC, 0, none⟩, L, L))) (er := 0) (bs := bs) (v := v) ⟨P.out.1, P.out.2.1, P.out.2.2.1, P.out.2.2.2, ?_, ?_, ?_, ?_, by omega, by omega⟩ ?_ (Or.inr (Or.inr ⟨HE.out, rfl, HSOL.out⟩)) rfl _ rfl rfl _ ⟨⟨D, rfl, HD.out.1, ?_, fun d' h => (by cases h)⟩, trivial⟩
        · exact ((HOB.out.setO (p := ⟨n + 1, 0, none⟩) (by show n + 1 < n + 3; omega) _).setO (p := ⟨n + 1, 1, none⟩) (by show n + 1 < n + 3; omega) _).setO (p := ⟨n + 1 + 1, 0, none⟩) (by show n + 1 + 1 < n + 3; omega) _ |>.base (by omega)
        · exact ((HOV.out.setO (p := ⟨n + 1, 0, none⟩) (by show n + 1 < n + 3; omega) _).setO (p := ⟨n + 1, 1, none⟩) (by show n + 1 < n + 3; omega) _).setO (p := ⟨n + 1 + 1, 0, none⟩) (by show n + 1 + 1 < n + 3; omega) _ |>.base (by omega)
        · intro g h; have h2 : gB = g := by injection h
          omega
        · intro g h; have h2 : gC = g := by injection h
          omega
        · rw [World.size_setCell, World.size_setCell, World.size_setCell]; exact HD.out.2.1
        · have hDD := HD.out.1
          rw [Below.heap_setCell _ _ _ _ (by show D ≠ n + 1 + 1; omega), Below.heap_setCell _ _ _ _ (by show D ≠ n + 1; omega), Below.heap_setCell _ _ _ _ (by show D ≠ n + 1; omega)]
          exact HD.out.2.2
      case stop =>
        rintro D co pre W hD hSp ⟨rfl, hX⟩ hD2
        have HNO := Lib.hid (hX.no hSp)
        gi_wp2
        have hlb := LTB.out
        have hnn := HN.out
        exact SvF.leaves (B := w3.heap.size) (n := n) (d := ((none, 0, 0), (none, 0, 0))) (er := 15) (bs := []) (v := []) ⟨hX.bel, hX.c0, hX.c1, hX.c2, Own.nil, Own.nil, (fun g h => (by cases h)), (fun g h => (by cases h)), by omega, by omega⟩ hX.sz (Or.inr (Or.inl ⟨HE.out, rfl, rfl, rfl, HNO.out⟩)) rfl _ rfl rfl _ ⟨⟨D, rfl, hD, hD2, fun d' h => (by cases h)⟩, trivial⟩
  · have HE := Lib.hid he
    have hne : (validR l wt != 0) = true := bne_iff_ne.2 he
    have P := Lib.hid (S2.out.put (by have := HN.out; omega) ((none, 0, 0), (none, 0, 0)) (validR l wt))
    clear he
    go_wp2_with fail
    refine SvF.leaves (B := w2.heap.size) (d := ((none, 0, 0), (none, 0, 0))) (bs := []) (v := []) ⟨P.out.1, P.out.2.1, P.out.2.2.1, P.out.2.2.2, Own.nil, Own.nil, (fun g h => (by cases h)), (fun g h => (by cases h)), S2.out.lt, S2.out.bel.size⟩ (by rw [World.size_setCell, World.size_setCell, World.size_setCell]; exact Nat.le_refl _) (Or.inl ⟨HE.out, rfl, rfl, rfl⟩) rfl _ rfl rfl [] trivial
end Go.Proofs.Ytkopbnppjhdbgaa
