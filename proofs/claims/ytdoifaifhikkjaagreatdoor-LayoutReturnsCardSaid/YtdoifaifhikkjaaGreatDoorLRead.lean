/-
  Stage 9: a line (the program's reader).
-/
import Derived.Test.YtdoifaifhikkjaaGreatDoorLWords
set_option linter.unusedSimpArgs false
set_option linter.unusedVariables false
namespace Go.Proofs.YtdoifaifhikkjaaGreatDoor
open Go.RowKit Go.Lib

/-- What a call of read leaves. -/
def RdPost (w : World) (base b mb nm : Nat) (es : List El) (f : Idx) (ws : List ByteArray) (e : Ending) (w' : World) : Prop :=
  e = .returned (.int .i64 (lineE f ws).1) ∧ KeepB base b mb w w' ∧ w.heap.size ≤ w'.heap.size ∧ ((lineE f ws).1 = 0 → ∃ v' nm', nm' ≤ nm + 1 ∧ Rdr w' base b mb nm' v' (es ++ (lineE f ws).2.toList) (nextI f es.length (lineE f ws).2))
theorem RdPost.bad {w : World} {base b mb nm : Nat} {es : List El} {f : Idx} {ws : List ByteArray} {w' : World} {e : Int} (h : lineE f ws = (e, none)) (he : e ≠ 0) (hb : Below w.heap.size w w') (hbase : base ≤ w.heap.size) : RdPost w base b mb nm es f ws (.returned (.int .i64 e)) w' :=
  ⟨by rw [h], KeepB.of hb hbase, hb.size, fun g => absurd (by rw [h] at g; exact g) he⟩
theorem RdPost.skip {w : World} {base b mb nm : Nat} {v : Value} {es : List El} {f : Idx} {ws : List ByteArray} {w' : World} (h : lineE f ws = (0, none)) (R : Rdr w' base b mb nm v es f) (hb : Below w.heap.size w w') (hbase : base ≤ w.heap.size) : RdPost w base b mb nm es f ws (.returned (.int .i64 0)) w' :=
  ⟨by rw [h], KeepB.of hb hbase, hb.size, fun _ => ⟨v, nm, by omega, by rw [h]; simpa [nextI] using R⟩⟩
theorem lineE_com {f : Idx} {ws : List ByteArray} (h : isCom ws = true) : lineE f ws = (0, none) := by unfold lineE; rw [if_pos h]
theorem lineE_kind {f : Idx} {ws : List ByteArray} (h : isCom ws = false) (hk : (kindV (nth ws 0).data.toList ws.length).2 = false) : lineE f ws = (6, none) := by
  unfold lineE
  rw [if_neg (by rw [h]; exact fun g => by cases g)]
  unfold kindV at hk
  cases hh : kindI (nth ws 0).data.toList with
  | none => rfl
  | some k =>
    rw [hh] at hk
    simp only at hk ⊢
    rw [if_pos (of_decide_eq_false hk)]
theorem kindI_lt {l : List UInt8} {k : Nat} (h : kindI l = some k) : k < 5 := by
  unfold kindI at h
  split at h
  · injection h with h; omega
  · split at h
    · injection h with h; omega
    · split at h
      · injection h with h; omega
      · split at h
        · injection h with h; omega
        · split at h
          · injection h with h; omega
          · cases h
theorem kindV_ok {l : List UInt8} {n : Nat} (h : (kindV l n).2 = true) : ∃ k, kindI l = some k ∧ k < 5 ∧ wlK k = n ∧ (kindV l n).1 = (k : Int) := by
  unfold kindV at h ⊢
  cases hh : kindI l with
  | none => rw [hh] at h; cases h
  | some k =>
    rw [hh] at h
    exact ⟨k, rfl, kindI_lt hh, of_decide_eq_true h, rfl⟩
theorem lineE_num {f : Idx} {ws : List ByteArray} {k : Nat} (h : isCom ws = false) (hk : kindI (nth ws 0).data.toList = some k) (hw : wlK k = ws.length) : lineE f ws = (if numsE (tailN ws k) ≠ 0 then (numsE (tailN ws k), none)
    else if nameS (nth ws 1) = false then (7, none)
    else if k = 0 then (0, some (elC ws 0))
    else if (parV f (nth ws 2).data.toList).2.2 = false then (7, none)
    else (0, some (elP ws k (parV f (nth ws 2).data.toList)))) := by
  unfold lineE
  rw [if_neg (by rw [h]; exact fun g => by cases g), hk]
  simp only
  rw [if_neg (fun g => g hw)]
theorem nth_at {ws : List ByteArray} {j : Nat} (h : j < ws.length) : ws[j]? = some (nth ws j) := by
  unfold nth; simp [List.getD, h]
theorem SRow.nth {w : World} {g : Nat} {ws : List ByteArray} (h : SRow w (some ⟨g, 0, none⟩) ws) (j : Nat) (hj : j < ws.length) : w.cell? ⟨g, j, none⟩ = some (.string (nth ws j)) ∧ g < w.heap.size := by
  obtain ⟨ad, e, hb, hc⟩ := h.at_ (nth_at hj)
  injection e with e
  subst e
  rw [add_own] at hc
  exact ⟨hc, hb⟩
/-- An element stored into a block. -/
def stE (w : World) (z : Nat) (x : El) : World := (((((((w.setCell ⟨z, 0, none⟩ (.int .i64 x.kind)).setCell ⟨z, 1, none⟩ (.string x.name)).setCell ⟨z, 2, none⟩ (.int .i64 x.par)).setCell ⟨z, 3, none⟩ (.int .i64 x.side)).setCell ⟨z, 4, none⟩ (.int .i64 x.len)).setCell ⟨z, 5, none⟩ (.int .i64 x.gra)).setCell ⟨z, 6, none⟩ (.int .i64 x.cur)).setCell ⟨z, 7, none⟩ (.int .i64 x.pow)
theorem stE_blk {w : World} {z : Nat} {y : El} (h : EBlk w z y) (x : El) : EBlk (stE w z x) z x := by
  obtain ⟨c0, c1, c2, c3, c4, c5, c6, c7, lt⟩ := h
  have hx : ∀ (w : World) i j u v, w.cell? ⟨z, j, none⟩ = some v → i ≠ j → (w.setCell ⟨z, i, none⟩ u).cell? ⟨z, j, none⟩ = some v := fun w i j u v hv hij => by
    rw [World.cell?_setCell_other _ _ _ _ (fun e => hij (by have := congrArg Addr.off e; exact this))]; exact hv
  have hs : ∀ (w : World) i u v, w.cell? ⟨z, i, none⟩ = some v → (w.setCell ⟨z, i, none⟩ u).cell? ⟨z, i, none⟩ = some u := fun w i u v hv => World.cell?_setCell_same _ _ _ hv
  have go : ∀ j, j < 8 → ∀ v, w.cell? ⟨z, j, none⟩ = some v → (stE w z x).cell? ⟨z, j, none⟩ = (cellsE x)[j]? := fun j hj v hv => by
    rcases (by omega : j = 0 ∨ j = 1 ∨ j = 2 ∨ j = 3 ∨ j = 4 ∨ j = 5 ∨ j = 6 ∨ j = 7) with rfl | rfl | rfl | rfl | rfl | rfl | rfl | rfl
    · exact (hx _ 7 0 _ _ (hx _ 6 0 _ _ (hx _ 5 0 _ _ (hx _ 4 0 _ _ (hx _ 3 0 _ _ (hx _ 2 0 _ _ (hx _ 1 0 _ _ (hs _ 0 _ _ hv) (by decide)) (by decide)) (by decide)) (by decide)) (by decide)) (by decide)) (by decide))
    · exact (hx _ 7 1 _ _ (hx _ 6 1 _ _ (hx _ 5 1 _ _ (hx _ 4 1 _ _ (hx _ 3 1 _ _ (hx _ 2 1 _ _ (hs _ 1 _ _ (hx _ 0 1 _ _ hv (by decide))) (by decide)) (by decide)) (by decide)) (by decide)) (by decide)) (by decide))
    · exact (hx _ 7 2 _ _ (hx _ 6 2 _ _ (hx _ 5 2 _ _ (hx _ 4 2 _ _ (hx _ 3 2 _ _ (hs _ 2 _ _ (hx _ 1 2 _ _ (hx _ 0 2 _ _ hv (by decide)) (by decide))) (by decide)) (by decide)) (by decide)) (by decide)) (by decide))
    · exact (hx _ 7 3 _ _ (hx _ 6 3 _ _ (hx _ 5 3 _ _ (hx _ 4 3 _ _ (hs _ 3 _ _ (hx _ 2 3 _ _ (hx _ 1 3 _ _ (hx _ 0 3 _ _ hv (by decide)) (by decide)) (by decide))) (by decide)) (by decide)) (by decide)) (by decide))
    · exact (hx _ 7 4 _ _ (hx _ 6 4 _ _ (hx _ 5 4 _ _ (hs _ 4 _ _ (hx _ 3 4 _ _ (hx _ 2 4 _ _ (hx _ 1 4 _ _ (hx _ 0 4 _ _ hv (by decide)) (by decide)) (by decide)) (by decide))) (by decide)) (by decide)) (by decide))
    · exact (hx _ 7 5 _ _ (hx _ 6 5 _ _ (hs _ 5 _ _ (hx _ 4 5 _ _ (hx _ 3 5 _ _ (hx _ 2 5 _ _ (hx _ 1 5 _ _ (hx _ 0 5 _ _ hv (by decide)) (by decide)) (by decide)) (by decide)) (by decide))) (by decide)) (by decide))
    · exact (hx _ 7 6 _ _ (hs _ 6 _ _ (hx _ 5 6 _ _ (hx _ 4 6 _ _ (hx _ 3 6 _ _ (hx _ 2 6 _ _ (hx _ 1 6 _ _ (hx _ 0 6 _ _ hv (by decide)) (by decide)) (by decide)) (by decide)) (by decide)) (by decide))) (by decide))
    · exact (hs _ 7 _ _ (hx _ 6 7 _ _ (hx _ 5 7 _ _ (hx _ 4 7 _ _ (hx _ 3 7 _ _ (hx _ 2 7 _ _ (hx _ 1 7 _ _ (hx _ 0 7 _ _ hv (by decide)) (by decide)) (by decide)) (by decide)) (by decide)) (by decide)) (by decide)))
  refine ⟨go 0 (by omega) _ c0, go 1 (by omega) _ c1, go 2 (by omega) _ c2, go 3 (by omega) _ c3, go 4 (by omega) _ c4, go 5 (by omega) _ c5, go 6 (by omega) _ c6, go 7 (by omega) _ c7, ?_⟩
  unfold stE; simp only [World.size_setCell]; exact lt
theorem stE_below {B : Nat} {a w : World} (h : Below B a w) {z : Nat} (hz : B ≤ z) (x : El) : Below B a (stE w z x) :=
  (((((((h.setCell (p := ⟨z, 0, none⟩) hz _).setCell (p := ⟨z, 1, none⟩) hz _).setCell (p := ⟨z, 2, none⟩) hz _).setCell (p := ⟨z, 3, none⟩) hz _).setCell (p := ⟨z, 4, none⟩) hz _).setCell (p := ⟨z, 5, none⟩) hz _).setCell (p := ⟨z, 6, none⟩) hz _).setCell (p := ⟨z, 7, none⟩) hz _
theorem stE_frozen (w : World) (z : Nat) (x : El) (a : Addr) : (stE w z x).frozen? a = w.frozen? a := by
  unfold stE; simp only [World.frozen?_setCell]
/-- The block of a new element, as the walk makes it. -/
structure New (W : World) (z : Nat) : Prop where
  c : EBlk W z zeroE
  f : ∀ j, W.frozen? ⟨z, j, none⟩ = false
abbrev zoE : Obj := .cells #[.int .i64 0, .string ⟨#[]⟩, .int .i64 0, .int .i64 0, .int .i64 0, .int .i64 0, .int .i64 0, .int .i64 0] 39
theorem New.mk0 (w : World) : New (w.alloc zoE) w.heap.size := by
  refine ⟨EBlk.of (newE w zeroE 39 w.heap.size rfl), fun j => ?_⟩
  have e : (w.alloc zoE).heap[w.heap.size]? = some zoE := by
    show (w.heap.push _)[w.heap.size]? = _
    rw [Array.getElem?_push, if_pos rfl]
  unfold World.frozen?; rw [e]; rfl
theorem New.below {w w' : World} {z : Nat} (h : New w z) (k : Below w.heap.size w w') : New w' z := by
  obtain ⟨⟨c0, c1, c2, c3, c4, c5, c6, c7, lt⟩, f⟩ := h
  have g : ∀ i, w'.cell? ⟨z, i, none⟩ = w.cell? ⟨z, i, none⟩ := fun i => k.cell (p := ⟨z, i, none⟩) lt
  exact ⟨⟨(g _).trans c0, (g _).trans c1, (g _).trans c2, (g _).trans c3, (g _).trans c4, (g _).trans c5, (g _).trans c6, (g _).trans c7, Nat.lt_of_lt_of_le lt k.size⟩, fun j => (k.frozen (p := ⟨z, j, none⟩) lt).trans (f j)⟩
theorem IMap.ne {w : World} {mb n z i : Nat} {f : Idx} {v : Value} (h : IMap w mb n f) (hc : w.cell? ⟨z, i, none⟩ = some v) : z ≠ mb := by
  intro e
  subst e
  obtain ⟨D, ⟨es, clock, hb, _⟩, _⟩ := h
  unfold World.cell? at hc
  rw [hb] at hc
  simp at hc
theorem infoEl : (Tryz.prog.info? 39).map (fun i => (i.zero, i.size, i.bytes)) = some (some (aggE zeroE), 8, 72) := by kernel_rfl
theorem newsE (w : World) (x : El) (T : TypeId) : ∀ ad, some (⟨w.heap.size, 0, none⟩ : Addr) = some ad → ∀ j u, (cellsE x)[j]? = some u → (w.alloc (.cells #[.int .i64 x.kind, .string x.name, .int .i64 x.par, .int .i64 x.side, .int .i64 x.len, .int .i64 x.gra, .int .i64 x.cur, .int .i64 x.pow] T)).cell? (ad.add j) = some u := fun ad e j u hj => by
  injection e with e
  subst e
  rw [add_own, cell_new]
  have : (#[.int .i64 x.kind, .string x.name, .int .i64 x.par, .int .i64 x.side, .int .i64 x.len, .int .i64 x.gra, .int .i64 x.cur, .int .i64 x.pow] : Array Value) = (cellsE x).toArray := rfl
  rw [this]; simpa using hj
theorem flat_one (x : El) : ER.flat [x] = cellsE x := List.append_nil _
theorem newsF (w : World) (x : El) (T : TypeId) : ∀ ad, some (⟨w.heap.size, 0, none⟩ : Addr) = some ad → ∀ j u, (ER.flat [x])[j]? = some u → (w.alloc (.cells #[.int .i64 x.kind, .string x.name, .int .i64 x.par, .int .i64 x.side, .int .i64 x.len, .int .i64 x.gra, .int .i64 x.cur, .int .i64 x.pow] T)).cell? (ad.add j) = some u := fun ad e j u hj => newsE w x T ad e j u (by rw [← flat_one]; exact hj)
theorem setCell_grownL (w : World) (g i : Nat) (u : Value) : w.grownBy (w.setCell ⟨g, i, none⟩ u) (some g) :=
  ⟨rfl, rfl, rfl, by rw [World.size_setCell]; exact Nat.le_refl _, fun k hk hn => Below.heap_setCell _ _ _ _ (fun e => hn (by first | exact congrArg some e | exact congrArg some e.symm))⟩
theorem own_first {w : World} {base : Nat} {T : TypeId} {v : Value} {es : List El} {x : El} (O : ROwn ER T w base v (es ++ [x])) {g : Nat} (hg : v.ownBlock = some g) : ∃ k, w.cell? ⟨g, 0, none⟩ = some (.int .i64 k) := by
  obtain ⟨A, c, rfl, RR, _, _, h0, _⟩ := O.full
  obtain ⟨g', rfl, _⟩ := h0 (by simp)
  have e : g' = g := by simpa [Value.ownBlock] using hg
  subst e
  obtain ⟨y, hy⟩ : ∃ y, (es ++ [x])[0]? = some y := ⟨_, List.getElem?_eq_getElem (by simp)⟩
  obtain ⟨ad, e, C⟩ := RR.at_ hy
  injection e with e
  subst e
  have := (ESpelt.of C).c0
  rw [Nat.zero_mul, add_own] at this
  exact ⟨_, this⟩
theorem Rdr.added {w8 : World} {base b mb nm : Nat} {v v8 : Value} {es : List El} {x : El} {f : Idx} (cb : w8.cell? ⟨b, 0, none⟩ = some v) (hvs : ∃ A n c, v = .slice A n c) (c1 : w8.cell? ⟨b, 1, none⟩ = some (.map (some mb))) (fb : w8.frozen? ⟨b, 0, none⟩ = false)
    (O : ROwn ER 39 w8 base v8 (es ++ [x])) (M : IMap w8 mb nm f) : Rdr (w8.setCell ⟨b, 0, none⟩ v8) base b mb nm v8 (es ++ [x]) f := by
  have n1 : v8.ownBlock ≠ some b := fun e => by
    obtain ⟨k, hk⟩ := own_first O e
    obtain ⟨A, n, c, rfl⟩ := hvs
    rw [cb] at hk
    cases hk
  have n2 : v8.ownBlock ≠ some mb := fun e => by
    obtain ⟨k, hk⟩ := own_first O e
    exact M.ne hk rfl
  exact ⟨World.cell?_setCell_same _ _ _ cb, by rw [World.cell?_setCell_other _ _ _ _ (fun e => by have := congrArg Addr.off e; simp at this)]; exact c1, by rw [World.frozen?_setCell]; exact fb,
    O.kept (setCell_grownL w8 b 0 v8) (Or.inr n1), M.set (fun e => M.ne cb e.symm) _, n1, n2⟩
theorem drew_below (w : World) : Below w.heap.size w w.drew := ⟨rfl, rfl, rfl, Nat.le_refl _, fun _ _ => rfl⟩
/-- What an append to the reader's list, and its store, leave. -/
theorem Rdr.step {w w7 w8 : World} {o : Obj} {base b mb nm : Nat} {v v8 : Value} {es : List El} {x : El} {f : Idx} (M : IMap w7 mb nm f) (OW : ROwn ER 39 w7 base v es) (hnb : v.ownBlock ≠ some b) (hnm : v.ownBlock ≠ some mb)
    (R0 : w7.cell? ⟨b, 0, none⟩ = some v) (hvs : ∃ A n c, v = .slice A n c) (R1 : w7.cell? ⟨b, 1, none⟩ = some (.map (some mb))) (RF : w7.frozen? ⟨b, 0, none⟩ = false) (HB : KeepB base b mb w w7) (hw : base ≤ w7.heap.size)
    (g : (w7.drew.alloc o).grownBy w8 v.ownBlock) (O : ROwn ER 39 w8 base v8 (es ++ [x])) :
    w8.cell? ⟨b, 0, none⟩ = some v ∧ w8.frozen? ⟨b, 0, none⟩ = false ∧ Rdr (w8.setCell ⟨b, 0, none⟩ v8) base b mb nm v8 (es ++ [x]) f ∧ KeepB base b mb w (w8.setCell ⟨b, 0, none⟩ v8) ∧ w7.heap.size ≤ (w8.setCell ⟨b, 0, none⟩ v8).heap.size := by
  have hbl : b < w7.heap.size := lt_of_cell R0
  have d1 := drew_below w7
  have d2 : Below w7.drew.heap.size w7.drew (w7.drew.alloc o) := (Below.refl _ _).alloc (Nat.le_refl _) _
  have d3 : Below w7.heap.size w7 (w7.drew.alloc o) := d1.trans d2
  have hbl3 : b < (w7.drew.alloc o).heap.size := Nat.lt_of_lt_of_le hbl d3.size
  have c0 := g.cell (a := ⟨b, 0, none⟩) ((d3.cell (p := ⟨b, 0, none⟩) hbl).trans R0) (fun e => hnb e.symm)
  have c1 := g.cell (a := ⟨b, 1, none⟩) ((d3.cell (p := ⟨b, 1, none⟩) hbl).trans R1) (fun e => hnb e.symm)
  have f0 : w8.frozen? ⟨b, 0, none⟩ = false := by
    rw [World.frozen?_of_block (w := w7.drew.alloc o) (g.block b hbl3 (fun e => hnb e.symm)), d3.frozen (p := ⟨b, 0, none⟩) hbl]; exact RF
  have M8 := (M.below d3).grown g (fun e => hnm e.symm)
  have B8 : KeepB base b mb w w8 := (HB.trans (KeepB.of d3 hw)).trans (KeepB.grown g (Nat.le_trans hw d3.size) (fun j hj => Or.inr (Or.inr (OW.block hj).1)))
  refine ⟨c0, f0, Rdr.added c0 hvs c1 f0 O M8, B8.trans (KeepB.grown (setCell_grownL w8 b 0 v8) (Nat.le_trans hw (Nat.le_trans d3.size g.size)) (fun j hj => by injection hj with hj; exact Or.inr (Or.inl hj.symm))), ?_⟩
  rw [World.size_setCell]
  exact Nat.le_trans d3.size g.size
theorem fz_new (w : World) (cs : Array Value) (T : TypeId) (j : Nat) : (w.alloc (.cells cs T)).frozen? ⟨w.heap.size, j, none⟩ = false := by
  have e : (w.alloc (.cells cs T)).heap[w.heap.size]? = some (.cells cs T) := by
    show (w.heap.push _)[w.heap.size]? = _
    rw [Array.getElem?_push, if_pos rfl]
  unfold World.frozen?; rw [e]; rfl
set_option maxRecDepth 100000 in
set_option maxHeartbeats 6400000 in
theorem read_any (s : ByteArray) (base b mb nm : Nat) (v0 : Value) (es : List El) (f : Idx) (w : World) (hs : s.size ≤ 16384) (R : Rdr w base b mb nm v0 es f) (hbase : base ≤ w.heap.size) (D : Dor w) (hN : nm ≤ 1000000) (hE : es.length ≤ 1000000) (hz : SzS (wdsB s)) :
    Calls Tryz.prog 21 #[.pointer (some ⟨b, 0, none⟩), .string s] w (RdPost w base b mb nm es f (wdsB s)) := by
  have HW := Lib.hid (words_any s w (by omega))
  have HR := Lib.hid R
  have HD := Lib.hid D
  have HZ := Lib.hid hz
  have HBA := Lib.hid hbase
  clear R D hz hbase hs
  generalize wdsB s = ws at *
  go_enter Tryz.func21, Tryz.ntmps21
  go_wp2_with fail
  refine HW.out.mono ?_
  rintro e w1 ⟨g, rfl, hg, S1, B1⟩
  have HS := Lib.hid S1
  have HR1 := Lib.hid (HR.out.below B1)
  have HD1 := Lib.hid (HD.out.below B1)
  have HB := Lib.hid B1
  have hwl := S1.len
  unfold maxLen at hwl
  have HG := Lib.hid hg
  clear HW HD S1 B1 hg
  by_cases hn : ws.length = 0
  · have HV := Lib.hid (lineE_com (f := f) (ws := ws) (by unfold isCom; rw [decide_eq_true hn]; rfl))
    rw [hn]
    clear hn
    go_wp2_with fail
    go_ret
    exact RdPost.skip HV.out HR1.out HB.out HBA.out
  obtain ⟨L, hL⟩ : ∃ n, n = ws.length := ⟨_, rfl⟩
  have HL := Lib.hid hL
  rw [← hL] at hn hwl ⊢
  have e0 : ((L : Int) == 0) = false := beq_eq_false_iff_ne.2 (by omega)
  have c0 := (HS.out.nth 0 (by rw [← hL]; omega)).1
  have HP := Lib.hid (hash_any (nth ws 0) w1)
  obtain ⟨hp, hhp⟩ : ∃ hp, hp = Lib.hasPrefix (nth ws 0).data.toList [35] := ⟨_, rfl⟩
  rw [← hhp] at HP
  have HC := Lib.hid (show isCom ws = hp by unfold isCom; rw [decide_eq_false (by rw [← hL]; exact hn), Bool.false_or, hhp])
  clear hL hhp
  go_wp2_with fail
  refine HP.out.mono ?_
  rintro e w' ⟨rfl, rfl⟩
  cases hp with
  | true =>
    have HV := Lib.hid (lineE_com (f := f) HC.out)
    go_wp2_with fail
    go_ret
    exact RdPost.skip HV.out HR1.out HB.out HBA.out
  | false =>
    have HK := kind_any ws (nth ws 0) (some ⟨g, 0, none⟩) L w' HS.out (nth_at (by rw [← HL.out]; omega)) HD1.out
    rw [← HL.out] at HK
    have HK' := Lib.hid HK
    clear HP HK c0
    go_wp2_with fail
    refine HK'.out.mono ?_
    rintro e w2 ⟨rfl, B2⟩
    have HS2 := Lib.hid (HS.out.below B2)
    have HR2 := Lib.hid (HR1.out.below B2)
    have HD2 := Lib.hid (HD1.out.below B2)
    have HB2 := Lib.hid (HB.out.trans (B2.mono HB.out.size))
    clear HK' B2 HS HR1 HD1 HB
    obtain ⟨kv, hkv⟩ : ∃ kv, kv = kindV (nth ws 0).data.toList L := ⟨_, rfl⟩
    have HKV := Lib.hid hkv
    rw [← hkv]
    clear hkv
    obtain ⟨ki, kb⟩ := kv
    cases kb with
    | false =>
      have HV := Lib.hid (lineE_kind (f := f) HC.out (by rw [← HL.out, ← HKV.out]))
      go_wp2_with fail
      go_ret
      exact RdPost.bad HV.out (by decide) HB2.out HBA.out
    | true =>
      obtain ⟨k, hk1, hk5, hkw, hk2⟩ := kindV_ok (l := (nth ws 0).data.toList) (n := L) (by rw [← HKV.out])
      have hki : ki = (k : Int) := by rw [← hk2, ← HKV.out]
      subst hki
      have HV := Lib.hid (lineE_num (f := f) HC.out hk1 (by rw [← HL.out]; exact hkw))
      clear hk1 hk2 HKV
      have hkL : nlK k ≤ L ∧ L ≤ 7 ∧ 2 ≤ L ∧ nlK k ≤ 4 ∧ (k = 0 → L = 2) ∧ (k ≠ 0 → 3 ≤ L) := by
        rw [← hkw]; unfold nlK wlK
        by_cases g0 : k = 0
        · subst g0; decide
        · rw [if_neg g0, if_neg g0]; split <;> omega
      have hkd : ∀ W, Below w2.heap.size w2 W → W.cell? ⟨0, k * 4 + 2, none⟩ = some (.int .i64 (nlK k : Int)) := fun W hb => by
        rw [(HD2.out.below hb).kd]
        have h' : k = 0 ∨ k = 1 ∨ k = 2 ∨ k = 3 ∨ k = 4 := by omega
        rcases h' with rfl | rfl | rfl | rfl | rfl <;> rfl
      obtain ⟨q, hq⟩ : ∃ q, q = nlK k := ⟨_, rfl⟩
      rw [← hq] at hkd hkL
      have hkd2 := hkd w2 (Below.refl _ _)
      obtain ⟨q1, q2, q3, q4, q5, q6⟩ := hkL
      have hslc : ∀ W, (Instr.slice 55 (.slice (some ⟨g, 0, none⟩) L L) (some (.int .i64 ((L : Int) - (q : Int)))) none none).run Tryz.prog W = .ok (.slice (if L = L - q then some ⟨g, 0, none⟩ else (some (⟨g, 0, none⟩ : Addr)).map (·.add (L - q))) q q) W := fun W => by
        have := slice_strs (some ⟨g, 0, none⟩) L L (L - q) W (by omega) (Nat.le_refl _)
        rw [show L - (L - q) = q by omega, show ((L - q : Nat) : Int) = (L : Int) - (q : Int) by omega] at this
        exact this
      have HTL := Lib.hid (fun W (h : SRow W (some ⟨g, 0, none⟩) ws) => h.cut (L - q) L (by rw [← HL.out]; exact Nat.le_refl _))
      generalize (if L = L - q then some (⟨g, 0, none⟩ : Addr) else (some (⟨g, 0, none⟩ : Addr)).map (·.add (L - q))) = A' at hslc HTL
      have htl : ws.drop (L - q) = tailN ws k := by show _ = ws.drop (ws.length - nlK k); rw [HL.out, hq]
      have hlt : (tailN ws k).length = q := by rw [← htl, List.length_drop, ← HL.out]; omega
      rw [htl] at HTL
      have HNC := nums_any (tailN ws k) A' q w2 (HTL.out _ HS2.out) (by omega) (fun s hs => HZ.out s (List.mem_of_mem_drop hs)) HD2.out
      rw [hlt] at HNC
      have HN' := Lib.hid HNC
      clear HNC hlt htl HTL hq hkd hkw
      go_wp2_with fail
      refine HN'.out.mono ?_
      rintro e w3 ⟨rfl, B3⟩
      unfold retN
      have HA : Hid (elC ws k = ⟨k, nth ws 1, -1, 0, numsR (tailN ws k) 0, numsR (tailN ws k) 1, numsR (tailN ws k) 2, numsR (tailN ws k) 3⟩) := Lib.hid rfl
      have HAP : Hid (∀ p, elP ws k p = ⟨k, nth ws 1, p.1, p.2.1, numsR (tailN ws k) 0, numsR (tailN ws k) 1, numsR (tailN ws k) 2, numsR (tailN ws k) 3⟩) := Lib.hid (fun _ => rfl)
      generalize numsR (tailN ws k) 0 = n0 at HA HAP ⊢
      generalize numsR (tailN ws k) 1 = n1 at HA HAP ⊢
      generalize numsR (tailN ws k) 2 = n2 at HA HAP ⊢
      generalize numsR (tailN ws k) 3 = n3 at HA HAP ⊢
      obtain ⟨en, hen⟩ : ∃ en, en = numsE (tailN ws k) := ⟨_, rfl⟩
      rw [← hen] at HV ⊢
      have BA := Lib.hid (B3.alloc B3.size (.cells #[.int .i64 n0, .int .i64 n1, .int .i64 n2, .int .i64 n3] 72))
      have HB4 := Lib.hid (HB2.out.trans (BA.out.mono HB2.out.size))
      have HS4 := Lib.hid (HS2.out.below BA.out)
      have HR4 := Lib.hid (HR2.out.below BA.out)
      have HD4 := Lib.hid (HD2.out.below BA.out)
      have A0 := Lib.hid (fun j (hj : j < 4) => (show (w3.alloc (.cells #[.int .i64 n0, .int .i64 n1, .int .i64 n2, .int .i64 n3] 72)).cell? ⟨w3.heap.size, j, none⟩ = some ((#[.int .i64 n0, .int .i64 n1, .int .i64 n2, .int .i64 n3] : Array Value).getD j undef) from by
        rw [cell_new]
        rcases (by omega : j = 0 ∨ j = 1 ∨ j = 2 ∨ j = 3) with rfl | rfl | rfl | rfl <;> rfl))
      have HQ3 : Hid (w3.heap.size < (w3.alloc (.cells #[.int .i64 n0, .int .i64 n1, .int .i64 n2, .int .i64 n3] 72)).heap.size) := Lib.hid (by simp)
      clear HN' HB2 HS2 HR2 HD2 B3 hen hslc hkd2 BA
      by_cases hen : en = 0
      · have ee : (en != 0) = false := by rw [hen]; rfl
        have HV2 := Lib.hid (HV.out.trans (if_neg (fun g => g hen)))
        clear hen HV
        have hL1 : (1 : Int) < (L : Int) := by omega
        go_upto_region 10 with fail
        generalize w3.alloc (.cells #[.int .i64 n0, .int .i64 n1, .int .i64 n2, .int .i64 n3] 72) = w4 at HB4 HS4 HR4 HD4 A0 HQ3 ⊢
        generalize w3.heap.size = ga at A0 HQ3 ⊢
        have KP := Lib.hid (fun (W : World) (hb : Below w4.heap.size w4 W) => (show W.cell? ⟨g, 1, none⟩ = some (.string (nth ws 1)) ∧ W.cell? ⟨ga, 0, none⟩ = some (.int .i64 n0) ∧ W.cell? ⟨ga, 1, none⟩ = some (.int .i64 n1) ∧ W.cell? ⟨ga, 2, none⟩ = some (.int .i64 n2) ∧ W.cell? ⟨ga, 3, none⟩ = some (.int .i64 n3) from
          ⟨((HS4.out.below hb).nth 1 (by rw [← HL.out]; omega)).1, (hb.cell (p := ⟨ga, 0, none⟩) HQ3.out).trans (A0.out 0 (by omega)), (hb.cell (p := ⟨ga, 1, none⟩) HQ3.out).trans (A0.out 1 (by omega)), (hb.cell (p := ⟨ga, 2, none⟩) HQ3.out).trans (A0.out 2 (by omega)), (hb.cell (p := ⟨ga, 3, none⟩) HQ3.out).trans (A0.out 3 (by omega))⟩))
        have hz1 : (nth ws 1).size ≤ 140737488355328 := HZ.out _ (List.mem_of_getElem? (nth_at (by rw [← HL.out]; omega)))
        have HZ1 := Lib.hid hz1
        have hz2 : L = 2 ∨ (nth ws 2).size ≤ 140737488355328 := by
          by_cases h2 : L = 2
          · exact Or.inl h2
          · exact Or.inr (HZ.out _ (List.mem_of_getElem? (nth_at (by rw [← HL.out]; omega))))
        have HZ2 := Lib.hid hz2
        have HC1 := Lib.hid (fun W => clone_any (nth ws 1) W (by omega))
        have hS2 := fun W (h : SRow W (some ⟨g, 0, none⟩) ws) (h2 : 2 < L) => (h.nth 2 (by rw [← HL.out]; exact h2)).1
        have HS2 := Lib.hid hS2
        obtain ⟨nm1, hnm1⟩ : ∃ nm1, nm1 = nth ws 1 := ⟨_, rfl⟩
        rw [← hnm1] at HV2 HA HAP KP HZ1 HC1
        clear hz1 hz2 hS2 hnm1
        have KA := Lib.hid (fun (W : World) (hb : Below (w4.alloc zoE).heap.size (w4.alloc zoE) W) => KP.out W (((Below.refl _ _).alloc (Nat.le_refl _) _).trans (hb.mono (by simp))))
        have HNW := Lib.hid (fun (W : World) (hb : Below (w4.alloc zoE).heap.size (w4.alloc zoE) W) => (New.mk0 w4).below hb)
        obtain ⟨c1, d0, d1, d2, d3⟩ := KP.out w4 (Below.refl _ _)
        have b0 : Below w4.heap.size w4 w4.drew := ⟨rfl, rfl, rfl, Nat.le_refl _, fun _ _ => rfl⟩
        have b1 : Below (w4.alloc zoE).heap.size (w4.alloc zoE) (w4.alloc zoE).drew := ⟨rfl, rfl, rfl, Nat.le_refl _, fun _ _ => rfl⟩
        have HB0 := Lib.hid b0
        have HB1 := Lib.hid b1
        clear b0 b1
        go_cut [10] (fun p wx => ∃ z, p = .pointer (some ⟨z, 0, none⟩) ∧ w4.heap.size ≤ z ∧ Hid (EBlk wx z (elC ws k)) ∧ Hid (∀ j, wx.frozen? ⟨z, j, none⟩ = false) ∧ Hid (Below w4.heap.size w4 wx))
        case first =>
          have K1 := Lib.hid (KP.out w4.drew HB0.out)
          have K2 := Lib.hid (KA.out (w4.alloc zoE) (Below.refl _ _))
          have K3 := Lib.hid (KA.out (w4.alloc zoE).drew HB1.out)
          go_region_held3 (fun W => W.cell? ⟨g, 1, none⟩ = some (.string nm1) ∧ W.cell? ⟨ga, 0, none⟩ = some (.int .i64 n0) ∧ W.cell? ⟨ga, 1, none⟩ = some (.int .i64 n1) ∧ W.cell? ⟨ga, 2, none⟩ = some (.int .i64 n2) ∧ W.cell? ⟨ga, 3, none⟩ = some (.int .i64 n3))
            (first | with_reducible exact K1.out | with_reducible exact K2.out | with_reducible exact K3.out | with_reducible exact KP.out _ HKB.out | with_reducible exact KP.out _ (HKB.out.alloc HKB.out.size _) | exact KP.out _ (stE_below HKB.out (Nat.le_refl _) ⟨k, nm1, -1, 0, n0, n1, n2, n3⟩))
            (first | (go_at_call 34; refine (HC1.out _).mono ?_; rintro e wh ⟨rfl, kb⟩; have hzw := HNW.out _ (HB1.out.trans kb); have HZW := Lib.hid hzw; clear hzw; have HKB := Lib.hid (show Below w4.heap.size w4 wh from ((Below.refl _ _).alloc (Nat.le_refl _) _).trans ((HB1.out.trans kb).mono (by simp))); have z0 := HZW.out.c.c0; have z1 := HZW.out.c.c1; have z2 := HZW.out.c.c2; have z3 := HZW.out.c.c3; have z4 := HZW.out.c.c4; have z5 := HZW.out.c.c5; have z6 := HZW.out.c.c6; have z7 := HZW.out.c.c7; have zf := HZW.out.f) | (go_at_call 34; refine (HC1.out _).mono ?_; rintro e wh ⟨rfl, kb⟩; have HKB := Lib.hid (show Below w4.heap.size w4 wh from HB0.out.trans kb)))
          · have F1 := Lib.hid (EBlk.of (newE wh ⟨k, nm1, -1, 0, n0, n1, n2, n3⟩ 39 wh.heap.size rfl))
            have F2 := Lib.hid (fz_new wh #[.int .i64 (k : Int), .string nm1, .int .i64 (-1), .int .i64 0, .int .i64 n0, .int .i64 n1, .int .i64 n2, .int .i64 n3] 39)
            have F3 := Lib.hid (HKB.out.alloc HKB.out.size (.cells #[.int .i64 (k : Int), .string nm1, .int .i64 (-1), .int .i64 0, .int .i64 n0, .int .i64 n1, .int .i64 n2, .int .i64 n3] 39))
            simp only at F1
            generalize wh.alloc (.cells #[.int .i64 (k : Int), .string nm1, .int .i64 (-1), .int .i64 0, .int .i64 n0, .int .i64 n1, .int .i64 n2, .int .i64 n3] 39) = wz at F1 F2 F3 ⊢
            rw [← HA.out] at F1
            clear c1 d0 d1 d2 d3
            go_wp2_with fail
            go_meet
            case rel => exact ⟨_, rfl, HKB.out.size, F1, F2, F3⟩
          · clear z0 z1 z2 z3 z4 z5 z6 z7 zf c1 d0 d1 d2 d3
            have F1 := Lib.hid (stE_blk HZW.out.c ⟨k, nm1, -1, 0, n0, n1, n2, n3⟩)
            have F2 := Lib.hid (fun j => (stE_frozen wh w4.heap.size ⟨k, nm1, -1, 0, n0, n1, n2, n3⟩ ⟨w4.heap.size, j, none⟩).trans (HZW.out.f j))
            have F3 := Lib.hid (stE_below HKB.out (Nat.le_refl _) ⟨k, nm1, -1, 0, n0, n1, n2, n3⟩)
            show Exit.then _ _ _ _ (stE wh w4.heap.size ⟨k, nm1, -1, 0, n0, n1, n2, n3⟩)
            generalize stE wh w4.heap.size ⟨k, nm1, -1, 0, n0, n1, n2, n3⟩ = wz at F1 F2 F3 ⊢
            rw [← HA.out] at F1
            go_wp2_with fail
            go_meet
            case rel => exact ⟨_, rfl, Nat.le_refl _, F1, F2, F3⟩
        obtain ⟨z, rfl, hz, HE, HF, HBX⟩ := hcut
        have HS5 := Lib.hid (HS4.out.below HBX.out)
        have HR5 := Lib.hid (HR4.out.below HBX.out)
        have HD5 := Lib.hid (HD4.out.below HBX.out)
        have HB5 := Lib.hid (HB4.out.trans (HBX.out.mono HB4.out.size))
        have HZL := Lib.hid (show w.heap.size ≤ z from Nat.le_trans HB4.out.size hz)
        rw [HA.out] at HE
        have HIN := Lib.hid (pname_any nm1 wc (by have := HZ1.out; unfold maxLen; omega))
        obtain ⟨c0, c1, c2, c3, c4, c5, c6, c7, lt⟩ := HE.out
        simp only at c0 c1 c2 c3 c4 c5 c6 c7
        clear HS4 HR4 HD4 HB4 HBX A0 HQ3 KP HC1
        obtain ⟨bn, hbn⟩ : ∃ bn, bn = nameS nm1 := ⟨_, rfl⟩
        rw [← hbn] at HIN HV2
        have HBN := Lib.hid hbn
        clear hbn
        go_wp2_with fail
        refine HIN.out.mono ?_
        rintro e w5 ⟨rfl, B5⟩
        have HS6 := Lib.hid (HS5.out.below B5)
        have HR6 := Lib.hid (HR5.out.below B5)
        have HD6 := Lib.hid (HD5.out.below B5)
        have HB6 := Lib.hid (HB5.out.trans (B5.mono HB5.out.size))
        have HLT := Lib.hid lt
        have HE6 : Hid (EBlk w5 z ⟨k, nm1, -1, 0, n0, n1, n2, n3⟩) := Lib.hid ⟨(B5.cell (p := ⟨z, 0, none⟩) lt).trans c0, (B5.cell (p := ⟨z, 1, none⟩) lt).trans c1, (B5.cell (p := ⟨z, 2, none⟩) lt).trans c2, (B5.cell (p := ⟨z, 3, none⟩) lt).trans c3, (B5.cell (p := ⟨z, 4, none⟩) lt).trans c4, (B5.cell (p := ⟨z, 5, none⟩) lt).trans c5, (B5.cell (p := ⟨z, 6, none⟩) lt).trans c6, (B5.cell (p := ⟨z, 7, none⟩) lt).trans c7, Nat.lt_of_lt_of_le lt B5.size⟩
        have HF6 := Lib.hid (fun j => (B5.frozen (p := ⟨z, j, none⟩) lt).trans (HF.out j))
        clear HIN HS5 HR5 HD5 HB5 c0 c1 c2 c3 c4 c5 c6 c7 lt HE HF B5
        cases bn with
        | false =>
          have HV3 := Lib.hid (HV2.out.trans (if_pos rfl))
          clear HV2
          go_wp2_with fail
          go_ret
          exact RdPost.bad HV3.out (by decide) HB6.out HBA.out
        | true =>
          have HV3 := Lib.hid (HV2.out.trans (if_neg (fun g => by cases g)))
          clear HV2
          have c0 := HE6.out.c0
          simp only at c0
          go_upto_if 65 with fail
          go_cut [7] (fun v wx => ∃ x, x.name = nm1 ∧ Hid (lineE f ws = (0, some x)) ∧ Hid (EBlk wx z x) ∧ Hid (∀ j, wx.frozen? ⟨z, j, none⟩ = false) ∧ Hid (Below w.heap.size w wx) ∧ Hid (Rdr wx base b mb nm v0 es f))
          case first =>
            by_cases k0 : k = 0
            · have hkn : ((k : Int) != 0) = false := by rw [k0]; rfl
              have HV4 := Lib.hid (show lineE f ws = (0, some (elC ws k)) from (HV3.out.trans (if_pos k0)).trans (by rw [k0]))
              clear k0
              go_wp2_with fail
              go_meet
              case rel => exact ⟨elC ws k, by rw [HA.out], HV4, by rw [HA.out]; exact HE6, HF6, HB6, HR6⟩
            · have hkn : ((k : Int) != 0) = true := bne_iff_ne.2 (by omega)
              have hL2 : (2 : Int) < (L : Int) := by have := q6 k0; omega
              have HV4 := Lib.hid (HV3.out.trans (if_neg k0))
              have cw := HS2.out w5 HS6.out (by have := q6 k0; omega)
              have hsz2 : (nth ws 2).size ≤ maxLen := by
                rcases HZ2.out with g | g
                · have := q6 k0; omega
                · unfold maxLen; omega
              have HPP := Lib.hid (par_any b mb nm f (nth ws 2) w5 HR6.out.c1 HR6.out.idx hsz2 HD6.out)
              obtain ⟨⟨pi, ps, pb⟩, hp⟩ : ∃ p, p = parV f (nth ws 2).data.toList := ⟨_, rfl⟩
              rw [← hp] at HPP HV4
              have HAPp := Lib.hid (HAP.out (pi, ps, pb))
              simp only at HAPp
              clear HV3 hp k0 hsz2 HAP HA
              go_wp2_with fail
              refine HPP.out.mono ?_
              rintro e w6 ⟨rfl, B6⟩
              have HN6 : Hid (New w6 z ∨ True) := Lib.hid (Or.inr trivial)
              have g2 := (B6.cell (p := ⟨z, 2, none⟩) HE6.out.lt).trans HE6.out.c2
              have g3 := (B6.cell (p := ⟨z, 3, none⟩) HE6.out.lt).trans HE6.out.c3
              have f2 := (B6.frozen (p := ⟨z, 2, none⟩) HE6.out.lt).trans (HF6.out 2)
              have f3 := (B6.frozen (p := ⟨z, 3, none⟩) HE6.out.lt).trans (HF6.out 3)
              have HE7 := Lib.hid (show EBlk ((w6.setCell ⟨z, 2, none⟩ (.int .i64 pi)).setCell ⟨z, 3, none⟩ (.int .i64 ps)) z ⟨k, nm1, pi, ps, n0, n1, n2, n3⟩ from by
                obtain ⟨c0, c1, c2, c3, c4, c5, c6, c7, lt⟩ := HE6.out
                have hx : ∀ (w : World) i j u v, w.cell? ⟨z, j, none⟩ = some v → i ≠ j → (w.setCell ⟨z, i, none⟩ u).cell? ⟨z, j, none⟩ = some v := fun w i j u v hv hij => by
                  rw [World.cell?_setCell_other _ _ _ _ (fun e => hij (by have := congrArg Addr.off e; exact this))]; exact hv
                have q : ∀ i v, w5.cell? ⟨z, i, none⟩ = some v → w6.cell? ⟨z, i, none⟩ = some v := fun i v h => (B6.cell (p := ⟨z, i, none⟩) lt).trans h
                exact ⟨hx _ 3 0 _ _ (hx _ 2 0 _ _ (q _ _ c0) (by decide)) (by decide), hx _ 3 1 _ _ (hx _ 2 1 _ _ (q _ _ c1) (by decide)) (by decide), hx _ 3 2 _ _ (World.cell?_setCell_same _ _ _ (q _ _ c2)) (by decide), World.cell?_setCell_same _ _ _ (hx _ 2 3 _ _ (q _ _ c3) (by decide)),
                  hx _ 3 4 _ _ (hx _ 2 4 _ _ (q _ _ c4) (by decide)) (by decide), hx _ 3 5 _ _ (hx _ 2 5 _ _ (q _ _ c5) (by decide)) (by decide), hx _ 3 6 _ _ (hx _ 2 6 _ _ (q _ _ c6) (by decide)) (by decide), hx _ 3 7 _ _ (hx _ 2 7 _ _ (q _ _ c7) (by decide)) (by decide), by simp only [World.size_setCell]; exact Nat.lt_of_lt_of_le lt B6.size⟩)
              have BX : Hid (Below w.heap.size w ((w6.setCell ⟨z, 2, none⟩ (.int .i64 pi)).setCell ⟨z, 3, none⟩ (.int .i64 ps))) := Lib.hid (((HB6.out.trans (B6.mono HB6.out.size)).setCell (p := ⟨z, 2, none⟩) HZL.out _).setCell (p := ⟨z, 3, none⟩) HZL.out _)
              have HR7 := Lib.hid (HR.out.below BX.out)
              have HF7 := Lib.hid (show ∀ j, ((w6.setCell ⟨z, 2, none⟩ (.int .i64 pi)).setCell ⟨z, 3, none⟩ (.int .i64 ps)).frozen? ⟨z, j, none⟩ = false from fun j => by
                simp only [World.frozen?_setCell]; exact (B6.frozen (p := ⟨z, j, none⟩) HE6.out.lt).trans (HF6.out j))
              clear HPP cw B6 c0 HR6 HB6 HE6 HF6
              cases pb with
              | false =>
                have HV5 := Lib.hid (HV4.out.trans (if_pos rfl))
                clear HV4
                go_wp2_with fail
                go_ret
                exact RdPost.bad HV5.out (by decide) BX.out HBA.out
              | true =>
                have HV5 := Lib.hid (HV4.out.trans (if_neg (fun g => by cases g)))
                clear HV4
                go_wp2_with fail
                go_meet
                case rel => exact ⟨elP ws k (pi, ps, true), by rw [HAPp.out], HV5, by rw [HAPp.out]; exact HE7, HF7, BX, HR7⟩
          obtain ⟨x, hxn, HLE, HEX, HFX, HBX, HRX⟩ := hcut
          have hsx : x.name.size ≤ maxLen := by have := HZ1.out; rw [hxn]; unfold maxLen; omega
          have HE0 := Lib.hid hE
          have hput0 := (HRX.out.idx.drewN 1).put (by unfold maxLen; omega) x.name es.length hsx (WalkArith.wf_i64 (by omega))
          obtain ⟨w7, hput1, M7, G7⟩ := hput0
          have hput : (Instr.mapUpdate 59 (.map (some mb)) (.string x.name) (.int .i64 (es.length : Int))).run Tryz.prog wc.drew = .ok () w7 := hput1
          clear hput1
          have HM7 := Lib.hid M7
          have HG7 := Lib.hid G7
          obtain ⟨A0, cc, hv0, RR, hlc, hcm, hA0, hA1⟩ := HRX.out.own.full
          have r0 := HRX.out.c0
          have r1 := HRX.out.c1
          have c1 := HEX.out.c1
          have HV0 := Lib.hid hv0
          rw [hv0] at r0
          have HXN := Lib.hid hxn
          clear M7 G7 hv0 hxn hsx RR hlc hcm hA0 hA1
          go_upto_region 17 with fail
          go_region
          have HR7 := Lib.hid HRX
          have BD : Below w.heap.size w wc.drew := bdn (n := 1) HBX.out
          have HBX7 := Lib.hid (show KeepB base b mb w w7 from (KeepB.of BD HBA.out).trans (KeepB.grown HG7.out (by have := BD.size; have := HBA.out; omega) (fun j hj => by injection hj with hj; exact Or.inl hj.symm)))
          clear hput r0 r1 c1
          have hbm : b ≠ mb := HRX.idx.ne HRX.c0
          have hzm : z ≠ mb := HRX.idx.ne HEX.out.c0
          have gc : ∀ q i v, q ≠ mb → wc.cell? ⟨q, i, none⟩ = some v → w7.cell? ⟨q, i, none⟩ = some v := fun q i v hq h => HG7.out.cell (a := ⟨q, i, none⟩) h (by simp; exact hq)
          have e0 := gc z 0 _ hzm HEX.out.c0
          have e1 := gc z 1 _ hzm HEX.out.c1
          have e2 := gc z 2 _ hzm HEX.out.c2
          have e3 := gc z 3 _ hzm HEX.out.c3
          have e4 := gc z 4 _ hzm HEX.out.c4
          have e5 := gc z 5 _ hzm HEX.out.c5
          have e6 := gc z 6 _ hzm HEX.out.c6
          have e7 := gc z 7 _ hzm HEX.out.c7
          have r0 : w7.cell? ⟨b, 0, none⟩ = some (.slice A0 es.length cc) := gc b 0 _ hbm (by rw [← HV0.out]; exact HRX.c0)
          have r1 : w7.cell? ⟨b, 1, none⟩ = some (.map (some mb)) := gc b 1 _ hbm HRX.c1
          have hbl : b < w7.heap.size := lt_of_cell r0
          have rf : w7.frozen? ⟨b, 0, none⟩ = false := by
            have := HG7.out.block b (by show b < wc.heap.size; exact lt_of_cell HRX.c0) (by simp; exact hbm)
            rw [World.frozen?_of_block (w := wc.drew) this]; exact HRX.fz
          have OW := Lib.hid (show ROwn ER 39 w7 base (.slice A0 es.length cc) es from by
            rw [← HV0.out]; exact (HRX.own.drewN 1).kept HG7.out (Or.inr HRX.nm'))
          have hnb : (Value.slice A0 es.length cc).ownBlock ≠ some b := by rw [← HV0.out]; exact HRX.ne
          have hnm : (Value.slice A0 es.length cc).ownBlock ≠ some mb := by rw [← HV0.out]; exact HRX.nm'
          have HNB := Lib.hid hnb
          have HNM := Lib.hid hnm
          have RF := Lib.hid rf
          have R0 := Lib.hid r0
          have R1 := Lib.hid r1
          have HBL := Lib.hid hbl
          obtain ⟨i0, hi, hz0, hz1, hz2⟩ := info_parts infoEl
          have hw7 : base ≤ w7.heap.size := by have := HBX7.out.size; have := HBA.out; omega
          have HW7 := Lib.hid hw7
          have hE2 : es.length ≤ 1000000 := hE
          have ra : ∀ o, (w7.alloc o).cell? ⟨b, 0, none⟩ = some (.slice A0 es.length cc) := fun o => (((Below.refl w7.heap.size w7).alloc (Nat.le_refl _) o).cell (p := ⟨b, 0, none⟩) hbl).trans r0
          clear gc hbm hzm hnb hnm BD hbl
          go_upto_region 18 with fail
          go_region_law (refine step_app_src rfl (.tmp 94) (.tmp 96) 23 rfl base 39 i0 (aggE zeroE) 8 72 Tryz.underlying23 hi hz0 hz1 hz2 rfl (by decide) _ es.length (ER.flat es) rfl (OW.out.alloc _) (some ⟨w7.heap.size, 0, none⟩) 1 1 (ER.flat [x]) rfl (fun e => by cases e) rfl (newsF w7.drew x _) (flatR_one ER [x]) (by unfold maxLen; omega) (by omega) (by have := HW7.out; simp; omega) ?_; intro v8 w8 hown hg8; have o8 := ROwn.app (R := ER) (l := es) (m := [x]) hown rfl rfl; obtain ⟨A8, c8, hv8, _, _, _, _, _⟩ := o8.full; have HV8 := Lib.hid hv8; have O8 := Lib.hid o8; clear o8; have o9 := Rdr.step (o := .cells #[.int .i64 x.kind, .string x.name, .int .i64 x.par, .int .i64 x.side, .int .i64 x.len, .int .i64 x.gra, .int .i64 x.cur, .int .i64 x.pow] 39) HM7.out OW.out HNB.out HNM.out R0.out ⟨_, _, _, rfl⟩ R1.out RF.out HBX7.out HW7.out hg8 O8.out; have cb := o9.1; have fb := o9.2.1; have HFIN := Lib.hid o9.2.2.1; have HBF := Lib.hid o9.2.2.2.1; have HSZ := Lib.hid o9.2.2.2.2; clear o9; clear hown hg8)
          all_goals
            clear cb fb r0 r1 rf ra e0 e1 e2 e3 e4 e5 e6 e7
            rw [show Value.slice A8 (es.length + 1) c8 = v8 from by rw [HV8.out]; simp]
            generalize w8.setCell ⟨b, 0, none⟩ v8 = wf at HFIN HBF HSZ ⊢
            have HSW := Lib.hid (show w.heap.size ≤ wf.heap.size from Nat.le_trans (Nat.le_trans HBX.out.size HG7.out.size) HSZ.out)
            go_wp2_with fail
            go_ret
            exact ⟨by rw [HLE.out]; rfl, HBF.out, HSW.out, fun _ => ⟨_, nm + 1, Nat.le_refl _, by rw [HLE.out]; exact HFIN.out⟩⟩
      · have ee : (en != 0) = true := bne_iff_ne.2 hen
        have HV2 := Lib.hid (HV.out.trans (if_pos hen))
        have HE := Lib.hid hen
        clear hen HV
        go_wp2_with fail
        go_ret
        exact RdPost.bad HV2.out HE.out HB4.out HBA.out
end Go.Proofs.YtdoifaifhikkjaaGreatDoor
