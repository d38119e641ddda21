/-
  Stage 8: the program's bestRest.
-/
import Derived.Test.YtbdiilkdajadcaaDoorRStop
import Derived.Test.YtbdiilkdajadcaaDoorRSl
import Derived.StillTailTactics
import Derived.Test.YtbdiilkdajadcaaDoorRRound
import Derived.IntWalk
set_option linter.unusedSimpArgs false
set_option linter.unusedVariables false
namespace Go.Proofs.YtbdiilkdajadcaaDoor
open Go.RowKit Go.Shelf
attribute [local go_sem] Oper.semAt_some

theorem al_old {W : World} {o : Obj} {k : Nat} {v : Obj} (h : W.heap[k]? = some v) : (W.alloc o).heap[k]? = some v := (Below.heap_alloc _ _ _ (Array.getElem?_eq_some_iff.1 h).1).trans h
theorem cellOf {W : World} {b : Nat} {cs : Array Value} {T : TypeId} (h : W.heap[b]? = some (.cells cs T)) (o : Nat) : W.cell? ⟨b, o, none⟩ = cs[o]? := by
  unfold World.cell?; rw [h]; rfl
theorem frozenOf {W : World} {b : Nat} {cs : Array Value} {T : TypeId} (h : W.heap[b]? = some (.cells cs T)) (o : Nat) : W.frozen? ⟨b, o, none⟩ = false := by
  unfold World.frozen?; rw [h]; rfl
theorem assign2 (t : Array Value) (p q : Nat) (u v : Value) : (#[p, q].zip #[u, v]).foldl (fun t (p, v) => t.setIfInBounds p v) t = (t.setIfInBounds p u).setIfInBounds q v := by simp
/-- What the edits so far leave of the best one. -/
def stB (T : Nat → Nat → Int) {x y : List Int} (i j : Nat) (pre : List (Pos x y)) : Bst := pre.foldl (fun s n => put1 (dC n.1 + T (i + dA n.1) (j + dB n.1)) n.1 s) none
theorem stB_snoc (T : Nat → Nat → Int) {x y : List Int} (i j : Nat) (pre : List (Pos x y)) (n : Pos x y) : stB T i j (pre ++ [n]) = put1 (dC n.1 + T (i + dA n.1) (j + dB n.1)) n.1 (stB T i j pre) := by
  unfold stB; rw [List.foldl_append]; rfl
theorem stB_poss (T : Nat → Nat → Int) (a b : List Int) (i j k : Nat) : stB T i j (poss (a.drop i) (b.drop j) k) = pickK T a b i j k := by
  induction k with
  | zero => rfl
  | succ k ih =>
    unfold poss pickK
    by_cases h : okP a b i j k = true
    · rw [if_pos h, dif_pos (by rw [okP_drop]; exact h), stB_snoc, ih]
    · rw [if_neg h, dif_neg (by rw [okP_drop]; exact h), ih]
abbrev coS (s : Bst) : Int := (s.getD (0, 0)).1
abbrev fiS (s : Bst) : Int := ((s.getD (0, 0)).2 : Int)
/-- What holds between two rounds. -/
structure BI (w : World) (N : Nat) (ad : Addr) (na cr i j : Nat) (W : World) (s : Bst) : Prop where
  bel : Below N w W
  siz : N + 8 ≤ W.heap.size
  c7 : W.cell? ⟨N, 0, none⟩ = some (.slice (some ad) na cr)
  c8 : W.cell? ⟨N + 1, 0, none⟩ = some (.int .i64 (i : Int))
  c9 : W.cell? ⟨N + 1 + 1, 0, none⟩ = some (.int .i64 (j : Int))
  r0 : W.cell? ⟨N + 1 + 1 + 1, 0, none⟩ = some (.int .i64 0)
  r1 : W.cell? ⟨N + 1 + 1 + 1, 1, none⟩ = some (.int .i64 0)
  b0 : W.cell? ⟨N + 1 + 1 + 1 + 1, 0, none⟩ = some (.int .i64 (coS s))
  b1 : W.cell? ⟨N + 1 + 1 + 1 + 1, 1, none⟩ = some (.int .i64 (fiS s))
  e0 : W.cell? ⟨N + 1 + 1 + 1 + 1 + 1, 0, none⟩ = some (.bool s.isSome)
  f10 : ∀ o, W.frozen? ⟨N + 1 + 1 + 1, o, none⟩ = false
  f11 : ∀ o, W.frozen? ⟨N + 1 + 1 + 1 + 1, o, none⟩ = false
  f12 : ∀ o, W.frozen? ⟨N + 1 + 1 + 1 + 1 + 1, o, none⟩ = false
theorem BI.below {w : World} {N : Nat} {ad : Addr} {na cr i j : Nat} {W W' : World} {s : Bst} (h : BI w N ad na cr i j W s) (b : Below (N + 8) W W') : BI w N ad na cr i j W' s := by
  have c : ∀ k o, k < N + 8 → W'.cell? ⟨k, o, none⟩ = W.cell? ⟨k, o, none⟩ := fun k o hk => b.cell (p := ⟨k, o, none⟩) hk
  have f : ∀ k o, k < N + 8 → W'.frozen? ⟨k, o, none⟩ = W.frozen? ⟨k, o, none⟩ := fun k o hk => b.frozen (p := ⟨k, o, none⟩) hk
  exact ⟨h.bel.trans (b.mono (by omega)), Nat.le_trans h.siz b.size, (c _ _ (by omega)).trans h.c7, (c _ _ (by omega)).trans h.c8, (c _ _ (by omega)).trans h.c9, (c _ _ (by omega)).trans h.r0, (c _ _ (by omega)).trans h.r1, (c _ _ (by omega)).trans h.b0, (c _ _ (by omega)).trans h.b1, (c _ _ (by omega)).trans h.e0,
    fun o => (f _ _ (by omega)).trans (h.f10 o), fun o => (f _ _ (by omega)).trans (h.f11 o), fun o => (f _ _ (by omega)).trans (h.f12 o)⟩
abbrev putB (W : World) (N : Nat) (c f : Int) : World := ((W.setCell ⟨N + 1 + 1 + 1 + 1, 0, none⟩ (.int .i64 c)).setCell ⟨N + 1 + 1 + 1 + 1, 1, none⟩ (.int .i64 f)).setCell ⟨N + 1 + 1 + 1 + 1 + 1, 0, none⟩ (.bool true)
theorem BI.put {w : World} {N : Nat} {ad : Addr} {na cr i j : Nat} {W : World} {s : Bst} (h : BI w N ad na cr i j W s) (c : Int) (f : Nat) : BI w N ad na cr i j (putB W N c f) (some (c, f)) := by
  have ne : ∀ {x o p q : Nat}, x ≠ p → (⟨p, q, none⟩ : Addr) ≠ ⟨x, o, none⟩ := fun h e => h (congrArg Addr.block e).symm
  have no : ∀ {x o q : Nat}, o ≠ q → (⟨x, q, none⟩ : Addr) ≠ ⟨x, o, none⟩ := fun h e => h (congrArg Addr.off e).symm
  have k : ∀ x o, x ≠ N + 1 + 1 + 1 + 1 → x ≠ N + 1 + 1 + 1 + 1 + 1 → (putB W N c f).cell? ⟨x, o, none⟩ = W.cell? ⟨x, o, none⟩ := fun x o h1 h2 => by
    rw [World.cell?_setCell_other _ _ _ _ (ne h2), World.cell?_setCell_other _ _ _ _ (ne h1), World.cell?_setCell_other _ _ _ _ (ne h1)]
  have fz : ∀ p, (putB W N c f).frozen? p = W.frozen? p := fun p => by rw [World.frozen?_setCell, World.frozen?_setCell, World.frozen?_setCell]
  refine ⟨((h.bel.setCell (p := ⟨N + 1 + 1 + 1 + 1, 0, none⟩) (by simp; omega) _).setCell (p := ⟨N + 1 + 1 + 1 + 1, 1, none⟩) (by simp; omega) _).setCell (p := ⟨N + 1 + 1 + 1 + 1 + 1, 0, none⟩) (by simp; omega) _,
    by rw [World.size_setCell, World.size_setCell, World.size_setCell]; exact h.siz, (k _ _ (by omega) (by omega)).trans h.c7, (k _ _ (by omega) (by omega)).trans h.c8, (k _ _ (by omega) (by omega)).trans h.c9, (k _ _ (by omega) (by omega)).trans h.r0, (k _ _ (by omega) (by omega)).trans h.r1, ?_, ?_, ?_,
    fun o => (fz _).trans (h.f10 o), fun o => (fz _).trans (h.f11 o), fun o => (fz _).trans (h.f12 o)⟩
  · rw [World.cell?_setCell_other _ _ _ _ (ne (by omega)), World.cell?_setCell_other _ _ _ _ (no (by omega))]
    exact World.cell?_setCell_same _ _ _ h.b0
  · rw [World.cell?_setCell_other _ _ _ _ (ne (by omega))]
    exact World.cell?_setCell_same _ _ _ (by rw [World.cell?_setCell_other _ _ _ _ (no (by omega))]; exact h.b1)
  · exact World.cell?_setCell_same _ _ _ (by rw [World.cell?_setCell_other _ _ _ _ (ne (by omega)), World.cell?_setCell_other _ _ _ _ (ne (by omega))]; exact h.e0)

/-- What the table holds, as far as it is read. -/
def Rds (w : World) (ad : Addr) (LA LB : Nat) (T : Nat → Nat → Int) : Prop := ∀ I J, I ≤ LA → J ≤ LB → ∃ g c, w.cell? (ad.add I) = some (.slice (some ⟨g, 0, none⟩) (LB + 1) c) ∧ w.cell? ⟨g, J * 2, none⟩ = some (.int .i64 (T I J)) ∧ -4000 ≤ T I J ∧ T I J ≤ 4000
set_option maxRecDepth 100000 in
set_option maxHeartbeats 3200000 in
theorem best_any (a b : List Int) (A B : Option Addr) (ca cb cr i j : Nat) (ad : Addr) (T : Nat → Nat → Int) (w : World) (hK : Knd w) (la : a.length ≤ 96) (lb : b.length ≤ 96) (ha : Row .i64 w w.heap.size A a) (hb : Row .i64 w w.heap.size B b)
    (hca : a.length ≤ ca) (hcb : b.length ≤ cb) (hi : i ≤ a.length) (hj : j ≤ b.length) (hT : Rds w ad a.length b.length T) :
    Calls Tryd.prog 26 #[.slice A a.length ca, .slice B b.length cb, .slice (some ad) (a.length + 1) cr, .int .i64 i, .int .i64 j] w fun e w' => e = .returned (.agg #[.int .i64 (bestK T a b i j).1, .int .i64 ((bestK T a b i j).2 : Int)]) ∧ Below w.heap.size w w' := by
  refine (callsIn_wide (n := 9)).1 ?_
  refine callsIn_of_wp_marks Tryd.func26 rfl trivial ?_ rfl
  simp only [Tryd.ntmps26, List.size_toArray, List.length_cons, List.length_nil, Nat.reduceAdd, Nat.reduceSub, Array.replicate_succ, Array.replicate_zero, List.push_toArray, List.append_toArray, List.nil_append, List.cons_append]
  have hslA : ∀ W, (Instr.slice 22 (.slice A a.length ca) (some (.int .i64 (i : Int))) none none).run Tryd.prog W = .ok (.slice (if ca = i then A else A.map (·.add (i * 1))) (a.length - i) (ca - i)) W := fun W => slice_ints A _ _ i W hi hca
  have hslB : ∀ W, (Instr.slice 22 (.slice B b.length cb) (some (.int .i64 (j : Int))) none none).run Tryd.prog W = .ok (.slice (if cb = j then B else B.map (·.add (j * 1))) (b.length - j) (cb - j)) W := fun W => slice_ints B _ _ j W hj hcb
  have HA := Lib.hid (ha.cutI i ca hca)
  have HB := Lib.hid (hb.cutI j cb hcb)
  generalize (if ca = i then A else A.map (·.add (i * 1))) = Ai at hslA HA
  generalize (if cb = j then B else B.map (·.add (j * 1))) = Bj at hslB HB
  gi_wp2
  obtain ⟨w6, hw6⟩ : ∃ w6, w6 = (((((w.alloc (Obj.cells #[Value.slice (some ad) (a.length + 1) cr] 47)).alloc (Obj.cells #[Value.int IntKind.i64 (i : Int)] 3)).alloc (Obj.cells #[Value.int IntKind.i64 (j : Int)] 3)).alloc (Obj.cells #[Value.int IntKind.i64 0, Value.int IntKind.i64 0] 50)).alloc (Obj.cells #[Value.int IntKind.i64 0, Value.int IntKind.i64 0] 50)).alloc (Obj.cells #[Value.bool false] 4) := ⟨_, rfl⟩
  rw [← hw6]
  have h6 : Below w.heap.size w w6 := by rw [hw6]; exact (((((((Below.refl _ w).alloc (Nat.le_refl _) _).alloc (by simp) _).alloc (by simp; omega) _).alloc (by simp; omega) _).alloc (by simp; omega) _).alloc (by simp; omega) _)
  have s6 : w6.heap.size = w.heap.size + 6 := by rw [hw6]; simp
  have o0 : w6.heap[w.heap.size]? = some (Obj.cells #[Value.slice (some ad) (a.length + 1) cr] 47) := by rw [hw6]; exact al_old (al_old (al_old (al_old (al_old (World.alloc_heap_new _ _)))))
  have o1 : w6.heap[w.heap.size + 1]? = some (Obj.cells #[Value.int IntKind.i64 (i : Int)] 3) := by rw [hw6]; exact al_old (al_old (al_old (al_old (by have := World.alloc_heap_new (w.alloc (Obj.cells #[Value.slice (some ad) (a.length + 1) cr] 47)) (Obj.cells #[Value.int IntKind.i64 (i : Int)] 3); rwa [World.size_alloc] at this))))
  have o2 : w6.heap[w.heap.size + 1 + 1]? = some (Obj.cells #[Value.int IntKind.i64 (j : Int)] 3) := by rw [hw6]; exact al_old (al_old (al_old (by have := World.alloc_heap_new ((w.alloc (Obj.cells #[Value.slice (some ad) (a.length + 1) cr] 47)).alloc (Obj.cells #[Value.int IntKind.i64 (i : Int)] 3)) (Obj.cells #[Value.int IntKind.i64 (j : Int)] 3); rwa [World.size_alloc, World.size_alloc] at this)))
  have o3 : w6.heap[w.heap.size + 1 + 1 + 1]? = some (Obj.cells #[Value.int IntKind.i64 0, Value.int IntKind.i64 0] 50) := by rw [hw6]; exact al_old (al_old (by have := World.alloc_heap_new (((w.alloc (Obj.cells #[Value.slice (some ad) (a.length + 1) cr] 47)).alloc (Obj.cells #[Value.int IntKind.i64 (i : Int)] 3)).alloc (Obj.cells #[Value.int IntKind.i64 (j : Int)] 3)) (Obj.cells #[Value.int IntKind.i64 0, Value.int IntKind.i64 0] 50); rwa [World.size_alloc, World.size_alloc, World.size_alloc] at this))
  have o4 : w6.heap[w.heap.size + 1 + 1 + 1 + 1]? = some (Obj.cells #[Value.int IntKind.i64 0, Value.int IntKind.i64 0] 50) := by rw [hw6]; exact al_old (by have := World.alloc_heap_new ((((w.alloc (Obj.cells #[Value.slice (some ad) (a.length + 1) cr] 47)).alloc (Obj.cells #[Value.int IntKind.i64 (i : Int)] 3)).alloc (Obj.cells #[Value.int IntKind.i64 (j : Int)] 3)).alloc (Obj.cells #[Value.int IntKind.i64 0, Value.int IntKind.i64 0] 50)) (Obj.cells #[Value.int IntKind.i64 0, Value.int IntKind.i64 0] 50); rwa [World.size_alloc, World.size_alloc, World.size_alloc, World.size_alloc] at this)
  have o5 : w6.heap[w.heap.size + 1 + 1 + 1 + 1 + 1]? = some (Obj.cells #[Value.bool false] 4) := by rw [hw6]; have := World.alloc_heap_new (((((w.alloc (Obj.cells #[Value.slice (some ad) (a.length + 1) cr] 47)).alloc (Obj.cells #[Value.int IntKind.i64 (i : Int)] 3)).alloc (Obj.cells #[Value.int IntKind.i64 (j : Int)] 3)).alloc (Obj.cells #[Value.int IntKind.i64 0, Value.int IntKind.i64 0] 50)).alloc (Obj.cells #[Value.int IntKind.i64 0, Value.int IntKind.i64 0] 50)) (Obj.cells #[Value.bool false] 4); rwa [World.size_alloc, World.size_alloc, World.size_alloc, World.size_alloc, World.size_alloc] at this
  have H6 := Lib.hid (And.intro h6 (And.intro s6 (And.intro o0 (And.intro o1 (And.intro o2 (And.intro o3 (And.intro o4 o5)))))))
  have c8 : w6.cell? ⟨w.heap.size + 1, 0, none⟩ = some (.int .i64 (i : Int)) := cellOf o1 0
  have c9 : w6.cell? ⟨w.heap.size + 1 + 1, 0, none⟩ = some (.int .i64 (j : Int)) := cellOf o2 0
  have PA := possible_any Ai Bj (a.length - i) (ca - i) (b.length - j) (cb - j) w6.drew
  rw [show w6.drew.heap.size = w.heap.size + 1 + 1 + 1 + 1 + 1 + 1 from s6] at PA
  clear h6 s6 o0 o1 o2 o3 o4 o5 hw6
  refine wpIn_wide.2 ?_
  go_still_tail 6, (by kernel_rfl)
  change wpList _ _ _ _ _ w6.drew
  go_wp2_with (first | (go_at_call 28; refine PA.mono ?_; rintro e w' ⟨rfl, rfl⟩))
  clear PA
  gi_wp2
  obtain ⟨h6, s6, o0, o1, o2, o3, o4, o5⟩ := H6.out
  obtain ⟨W0, hW0⟩ : ∃ W0, W0 = posW w6.drew Ai (a.length - i) (ca - i) Bj (b.length - j) (cb - j) := ⟨_, rfl⟩
  have b60 : Below (w.heap.size + 6) w6 W0 := by rw [hW0, ← s6]; exact (((⟨rfl, rfl, rfl, Nat.le_refl _, fun _ _ => rfl⟩ : Below w6.heap.size w6 w6.drew)).alloc (Nat.le_refl _) _).alloc (by simp) _
  have s0 : W0.heap.size = w.heap.size + 8 := by rw [hW0]; simp; exact s6
  have pA : W0.heap[w.heap.size + 1 + 1 + 1 + 1 + 1 + 1]? = some (.cells #[.slice Ai (a.length - i) (ca - i)] 22) := by
    rw [hW0]
    refine al_old ?_
    have := World.alloc_heap_new w6.drew (.cells #[.slice Ai (a.length - i) (ca - i)] 22)
    rwa [show w6.drew.heap.size = w.heap.size + 1 + 1 + 1 + 1 + 1 + 1 from s6] at this
  have pB : W0.heap[w.heap.size + 1 + 1 + 1 + 1 + 1 + 1 + 1]? = some (.cells #[.slice Bj (b.length - j) (cb - j)] 22) := by
    rw [hW0]
    have := World.alloc_heap_new (w6.drew.alloc (.cells #[.slice Ai (a.length - i) (ca - i)] 22)) (.cells #[.slice Bj (b.length - j) (cb - j)] 22)
    rwa [World.size_alloc, show w6.drew.heap.size = w.heap.size + 1 + 1 + 1 + 1 + 1 + 1 from s6] at this
  have k6 : ∀ k o, k < w.heap.size + 6 → W0.cell? ⟨k, o, none⟩ = w6.cell? ⟨k, o, none⟩ := fun k o hk => b60.cell (p := ⟨k, o, none⟩) hk
  have f6 : ∀ k o, k < w.heap.size + 6 → W0.frozen? ⟨k, o, none⟩ = w6.frozen? ⟨k, o, none⟩ := fun k o hk => b60.frozen (p := ⟨k, o, none⟩) hk
  have hI0 : BI w w.heap.size ad (a.length + 1) cr i j W0 none := ⟨h6.trans (b60.mono (by omega)), by omega, (k6 _ _ (by omega)).trans (cellOf o0 0), (k6 _ _ (by omega)).trans c8, (k6 _ _ (by omega)).trans c9,
    (k6 _ _ (by omega)).trans (cellOf o3 0), (k6 _ _ (by omega)).trans (cellOf o3 1), (k6 _ _ (by omega)).trans (cellOf o4 0), (k6 _ _ (by omega)).trans (cellOf o4 1), (k6 _ _ (by omega)).trans (cellOf o5 0),
    fun o => (f6 _ _ (by omega)).trans (frozenOf o3 o), fun o => (f6 _ _ (by omega)).trans (frozenOf o4 o), fun o => (f6 _ _ (by omega)).trans (frozenOf o5 o)⟩
  have cA0 := cellOf pA 0
  have cB0 := cellOf pB 0
  have HA0 := (HA.out.under (h6.trans (b60.mono (by omega))))
  have HB0 := (HB.out.under (h6.trans (b60.mono (by omega))))
  have e1 : a.length - i = (a.drop i).length := by rw [List.length_drop]
  have e2 : b.length - j = (b.drop j).length := by rw [List.length_drop]
  have hK0 : Knd W0 := hK.below' (h6.trans (b60.mono (by omega)))
  rw [← hW0]
  clear hW0 pA pB k6 f6 o0 o1 o2 o3 o4 o5 H6 c8 c9 h6 s6 b60 hslA hslB HA HB
  refine wpIn_rangeFunc_ownH rfl (by decide) (gf := 37) (lb := #[.pointer (some ⟨w.heap.size + 1 + 1 + 1 + 1 + 1 + 1, 0, none⟩), .pointer (some ⟨w.heap.size + 1 + 1 + 1 + 1 + 1 + 1 + 1, 0, none⟩)]) rfl trivial (enters_of Tryd.func37 (by kernel_rfl) rfl)
    (poss_stops 8 (by decide) (a.drop i) (b.drop j) Ai Bj (ca - i) (cb - j) (w.heap.size + 1 + 1 + 1 + 1 + 1 + 1) (w.heap.size + 1 + 1 + 1 + 1 + 1 + 1 + 1) w.heap.size (by rw [← e1]; omega) (by rw [← e2]; omega) W0 (by rw [← e1]; exact cA0) (by rw [← e2]; exact cB0) hK0 hK.lt (by omega) HA0 HB0)
    (fun h k => h.t k) (KpP.put (by omega) (by omega) (by omega)) (Below.refl _ _) (fun _ => rfl)
    (fun pre W => BI w w.heap.size ad (a.length + 1) cr i j W (stB T i j pre))
    (fun _ _ _ => False)
    (ownFrom_stable (fun _ _ h => by rw [s0]; exact h.siz) (fun _ _ _ h k => h.below (by rw [← s0]; exact k)))
    (fun _ _ _ _ _ hs _ _ => hs)
    hI0
    (fun x a' W => ∃ Bx, w.heap.size + 8 ≤ Bx ∧ W.heap[Bx]? = some (.cells #[.int .i64 (dA x.1 : Int), .int .i64 (dB x.1 : Int), .int .i64 (dC x.1)] 54) ∧ a' = { tmps := #[.slice A a.length ca, .slice B b.length cb, .slice (some ad) (a.length + 1) cr, .int .i64 (i : Int), .int .i64 (j : Int), undef, undef, .pointer (some ⟨w.heap.size, 0, none⟩), .pointer (some ⟨w.heap.size + 1, 0, none⟩), .pointer (some ⟨w.heap.size + 1 + 1, 0, none⟩), .pointer (some ⟨w.heap.size + 1 + 1 + 1, 0, none⟩), .pointer (some ⟨w.heap.size + 1 + 1 + 1 + 1, 0, none⟩), .pointer (some ⟨w.heap.size + 1 + 1 + 1 + 1 + 1, 0, none⟩), .int .i64 (x.1 : Int), .pointer (some ⟨Bx, 0, none⟩), undef, .slice A a.length ca, .int .i64 (i : Int), .slice Ai (a.length - i) (ca - i), .slice B b.length cb, .int .i64 (j : Int), .slice Bj (b.length - j) (cb - j), .func (.func 37) #[] #[.pointer (some ⟨w.heap.size + 1 + 1 + 1 + 1 + 1 + 1, 0, none⟩), .pointer (some ⟨w.heap.size + 1 + 1 + 1 + 1 + 1 + 1 + 1, 0, none⟩)], .int .i64 (x.1 : Int), kV x.1, undef, undef, undef, undef, undef, undef, undef, undef, undef, undef, undef, undef, undef, undef, undef, undef, undef, undef, undef, undef, undef, undef, undef, undef, undef, undef, undef, undef, undef], defers := [] })
    (fun x a' _ X Y row hs hg hr => by obtain ⟨Bx, h1, h2, h3⟩ := hs; exact ⟨Bx, h1, (hg.block Bx (Array.getElem?_eq_some_iff.1 h2).1 (fun e => by obtain ⟨-, o, ho, hc⟩ := hr Bx e.symm; rw [h2] at ho; cases ho; cases hc)).trans h2, h3⟩)
    ?assign ?body ?done ?stop
  case assign =>
    rintro l pre x W K hI hK
    rw [assign2]
    simp only [List.setIfInBounds_toArray, List.set_cons_succ, List.set_cons_zero]
    gi_wp2
    have hs := hI.siz
    refine hK _ _ ((KeepsOthers.alloc _ _).from _) (KpP.of_below ((Below.refl _ W).alloc (Nat.le_refl _) _) (by omega) (by omega) (by omega)) (hI.below ((Below.refl _ W).alloc hs _)) ⟨W.heap.size, hs, World.alloc_heap_new _ _, rfl⟩
  case body =>
    rintro l pre ⟨xn, hx⟩ a' W hl - hI ⟨Bx, hBx, hbx, rfl⟩ hlt
    have hok : okP a b i j xn = true := by rw [← okP_drop]; exact hx
    obtain ⟨h5, hiA, hjB, hd1, hc0, hc4, -⟩ := okP_in hi hj hok
    obtain ⟨g, cg, t1, t2, t3, t4⟩ := hT (i + dA xn) (j + dB xn) hiA hjB
    have t1 := (hI.bel.cell (lt_of_cell t1)).trans t1
    have t2 := (hI.bel.cell (lt_of_cell t2)).trans t2
    have HS := Lib.hid (stB_snoc T i j pre ⟨xn, hx⟩)
    simp only at HS
    have q0 : W.cell? ⟨Bx, 0, none⟩ = some (.int .i64 (dA xn : Int)) := cellOf hbx 0
    have q1 : W.cell? ⟨Bx, 1, none⟩ = some (.int .i64 (dB xn : Int)) := cellOf hbx 1
    have q2 : W.cell? ⟨Bx, 2, none⟩ = some (.int .i64 (dC xn)) := cellOf hbx 2
    have c7 := hI.c7
    have c8 := hI.c8
    have c9 := hI.c9
    have w1 : IntKind.i64.wrap ((i : Int) + (dA xn : Int)) = ((i + dA xn : Nat) : Int) := by rw [IntWalk.i64_in _ (by omega)]; omega
    have w2 : IntKind.i64.wrap ((j : Int) + (dB xn : Int)) = ((j + dB xn : Nat) : Int) := by rw [IntWalk.i64_in _ (by omega)]; omega
    obtain ⟨I, eI⟩ : ∃ I, I = i + dA xn := ⟨_, rfl⟩
    obtain ⟨J, eJ⟩ : ∃ J, J = j + dB xn := ⟨_, rfl⟩
    rw [← eI] at t1 t2 t3 t4 w1 hiA HS
    rw [← eJ] at t2 t3 t4 w2 hjB HS
    obtain ⟨tv, etv⟩ : ∃ tv, tv = T I J := ⟨_, rfl⟩
    rw [← etv] at t2 t3 t4 HS
    have w3 : IntKind.i64.wrap (dC xn + tv) = dC xn + tv := by rw [IntWalk.i64_in _ (by omega)]
    have i0 : (0 : Int) ≤ (I : Int) := by omega
    have j0 : (0 : Int) ≤ (J : Int) := by omega
    have i1 : (I : Int) < (a.length : Int) + 1 := by omega
    have j1 : (J : Int) < (b.length : Int) + 1 := by omega
    obtain ⟨s, es⟩ : ∃ s, s = stB T i j pre := ⟨_, rfl⟩
    rw [← es] at HS hI
    have HI := Lib.hid hI
    clear eI eJ etv es hI hT hok hd1 hbx hI0 cA0 cB0 HA0 HB0 ha hb hK hK0
    gi_wp2
    dsimp only
    refine wpIn_region_quiet_round l rfl (by kernel_rfl) (by kernel_rfl) (by kernel_rfl) ?_
    repeat (gi_big_quiet_step (fail))
    refine wpQuietIn_nil ?_
    intro _ hw'
    obtain ⟨nq, hw''⟩ := hw'
    subst hw''
    obtain ⟨W1, hW1⟩ : ∃ W1, W1 = W.drewN nq := ⟨_, rfl⟩
    rw [← hW1]
    have HW := Lib.hid (show KeepsFrom W0.heap.size W W1 ∧ KpP w.heap.size (w.heap.size + 1 + 1 + 1 + 1 + 1 + 1) (w.heap.size + 1 + 1 + 1 + 1 + 1 + 1 + 1) W W1 from by
      subst hW1; exact ⟨⟨Nat.le_refl _, fun _ _ _ h _ => h⟩, ⟨⟨rfl, rfl, rfl, Nat.le_refl _, fun _ _ => rfl⟩, rfl, rfl, Nat.le_refl _⟩⟩)
    have HI1 := Lib.hid (show BI w w.heap.size ad (a.length + 1) cr i j W1 s from HI.out.below (by subst hW1; exact ⟨rfl, rfl, rfl, Nat.le_refl _, fun _ _ => rfl⟩))
    clear HI hW1 c7 c8 c9 t1 t2 q0 q1 q2 t3 t4 w1 w2 w3
    have b0 := HI1.out.b0
    have b1 := HI1.out.b1
    have e0 := HI1.out.e0
    have f1 := HI1.out.f11 0
    have f2 := HI1.out.f11 1
    have f3 := HI1.out.f12 0
    generalize dC xn + tv = cv at *
    have FIN := Lib.hid (show KeepsFrom W0.heap.size W (putB W1 w.heap.size cv xn) ∧ KpP w.heap.size (w.heap.size + 1 + 1 + 1 + 1 + 1 + 1) (w.heap.size + 1 + 1 + 1 + 1 + 1 + 1 + 1) W (putB W1 w.heap.size cv xn) ∧ BI w w.heap.size ad (a.length + 1) cr i j (putB W1 w.heap.size cv xn) (some (cv, xn)) from
      ⟨((HW.out.1.trans ((KeepsOthers.setCell _ _ _).from _)).trans ((KeepsOthers.setCell _ _ _).from _)).trans ((KeepsOthers.setCell _ _ _).from _),
       ((HW.out.2.set (by simp; omega) (by simp) (by simp) _).set (by simp; omega) (by simp) (by simp) _).set (by simp; omega) (by simp) (by simp) _, HI1.out.put cv xn⟩)
    cases s with
    | none =>
      have HS2 := Lib.hid (show stB T i j (pre ++ [⟨xn, hx⟩]) = some (cv, xn) from HS.out)
      simp only [coS, fiS, Option.getD_none, Option.isSome_none] at b0 b1 e0
      gi_wp2
      exact ⟨FIN.out.1, FIN.out.2.1, by show BI _ _ _ _ _ _ _ _ (stB T i j (pre ++ [_])); rw [HS2.out]; exact FIN.out.2.2⟩
    | some y =>
      obtain ⟨yc, yf⟩ := y
      simp only [coS, fiS, Option.getD_some, Option.isSome_some] at b0 b1 e0
      by_cases hlc : cv < yc
      · have HS2 := Lib.hid (show stB T i j (pre ++ [⟨xn, hx⟩]) = some (cv, xn) from HS.out.trans (if_pos hlc))
        gi_wp2
        exact ⟨FIN.out.1, FIN.out.2.1, by show BI _ _ _ _ _ _ _ _ (stB T i j (pre ++ [_])); rw [HS2.out]; exact FIN.out.2.2⟩
      · have HS2 := Lib.hid (show stB T i j (pre ++ [⟨xn, hx⟩]) = some (yc, yf) from HS.out.trans (if_neg hlc))
        gi_wp2
        exact ⟨HW.out.1, HW.out.2, by show BI _ _ _ _ _ _ _ _ (stB T i j (pre ++ [_])); rw [HS2.out]; exact HI1.out⟩
  case done =>
    rintro D ys W hD rfl hI hK
    rw [stB_poss] at hI
    have b0 := hI.b0
    have b1 := hI.b1
    have r0 := hI.r0
    have r1 := hI.r1
    have f1 := hI.f10 0
    have f2 := hI.f10 1
    have HB := Lib.hid (show bestK T a b i j = (pickK T a b i j 5).getD (0, 0) from rfl)
    have HI := Lib.hid hI
    obtain ⟨s, hs⟩ : ∃ s, s = pickK T a b i j 5 := ⟨_, rfl⟩
    rw [← hs] at HB HI b0 b1
    clear hI hs
    gi_wp2
    have hK' := ((KeepsOthers.setCell W ⟨w.heap.size + 1 + 1 + 1, 0, none⟩ (.int .i64 (coS s))).trans (KeepsOthers.setCell _ ⟨w.heap.size + 1 + 1 + 1, 1, none⟩ (.int .i64 (fiS s)))).same D _ hK rfl
    have g1 : ((W.setCell ⟨w.heap.size + 1 + 1 + 1, 0, none⟩ (.int .i64 (coS s))).setCell ⟨w.heap.size + 1 + 1 + 1, 1, none⟩ (.int .i64 (fiS s))).cell? ⟨w.heap.size + 1 + 1 + 1, 0, none⟩ = some (.int .i64 (coS s)) := by
      rw [World.cell?_setCell_other _ _ _ _ (by simp)]; exact World.cell?_setCell_same _ _ _ r0
    have g2 : ((W.setCell ⟨w.heap.size + 1 + 1 + 1, 0, none⟩ (.int .i64 (coS s))).setCell ⟨w.heap.size + 1 + 1 + 1, 1, none⟩ (.int .i64 (fiS s))).cell? ⟨w.heap.size + 1 + 1 + 1, 1, none⟩ = some (.int .i64 (fiS s)) :=
      World.cell?_setCell_same _ _ _ (by rw [World.cell?_setCell_other _ _ _ _ (by simp)]; exact r1)
    have g1 := cell_kept g1 (grownBy_putObj' _ D (.deferred none)) (fun r e => by cases e; exact ⟨_, hK', rfl⟩)
    have g2 := cell_kept g2 (grownBy_putObj' _ D (.deferred none)) (fun r e => by cases e; exact ⟨_, hK', rfl⟩)
    refine ⟨by simp, .inl ⟨_, _, rfl, run_takeDeferred hK', ?_⟩⟩
    refine ⟨.agg #[.int .i64 (coS s), .int .i64 (fiS s)], ?_, by rw [HB.out], ((HI.out.bel.setCell (p := ⟨w.heap.size + 1 + 1 + 1, 0, none⟩) (by simp; omega) _).setCell (p := ⟨w.heap.size + 1 + 1 + 1, 1, none⟩) (by simp; omega) _).trans (belowK_b (w := W0) (by omega) _ D _ _ hD hK' rfl rfl)⟩
    simp [results, Tryd.f26, go_sem, g1, g2]
  case stop =>
    rintro D c pre W _ _ h _
    exact h.elim
end Go.Proofs.YtbdiilkdajadcaaDoor
