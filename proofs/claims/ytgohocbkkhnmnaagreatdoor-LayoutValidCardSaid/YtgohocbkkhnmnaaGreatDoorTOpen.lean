/-
  Stage 10: a list of elements that came in, as the reader reads it.
-/
import Derived.Test.YtgohocbkkhnmnaaGreatDoorLRVal
import Derived.Deep.Slices
import Derived.Deep.Strs
import Derived.SizedLaws
set_option linter.unusedSimpArgs false
set_option linter.unusedVariables false
namespace Go.Proofs.YtgohocbkkhnmnaaGreatDoor
open Go.RowKit

theorem okWide_plain {P : Program} {w : World} {r : Reach} {base : Nat} {t e : TypeId} {A : Option Addr} {len cap : Nat} (ht : P.underlying t = some (.slice e)) (h : Value.okWide P w r base t (.slice A len cap)) : PlainA A := by
  intro ad hA
  subst hA
  simp only [Value.okWide, ht, Cell.okWide, Cell.ok, World.has] at h
  obtain ⟨b, o, s⟩ := ad
  have hs : s = none := by simp_all
  subst hs
  rfl
section
variable {H : Type} {enc : TypeId × Value → H} {P : Program} {w : World} {base : Nat} {spare : Nat → Bool} {held : Bool}
/-- A struct of eight cells. -/
theorem open_elem {t : TypeId} {fs : Array Field} {fuel : Nat} {cs : List Value} {x : DataW H × List MemPlace} (ht : P.underlying t = some (.struct fs))
    (hf : fs.toList.map (fun f => (f.offset, P.cellsOf f.type, P.underlying f.type)) = [(0, 1, some (.int .i64)), (1, 1, some .string), (2, 1, some (.int .i64)), (3, 1, some (.int .i64)), (4, 1, some (.int .i64)), (5, 1, some (.int .i64)), (6, 1, some (.int .i64)), (7, 1, some (.int .i64))]) (ce : P.cellsOf t = 8)
    (h : DataW.trod enc P w base spare held fuel t cs = some x) : ∃ y : El, cs = cellsE y ∧ ∃ d, x.1 = .agg d ∧ d[1]? = some (.lit (.string y.name.data.toList)) := by
  obtain ⟨xs, n, _, rfl, hl, hlen, hx⟩ := DataW.trod_struct ht h
  rw [ce] at hl
  have hg : ∀ (i : Nat) (v : Nat × Nat × Option TypeDesc), [(0, 1, some (TypeDesc.int .i64)), (1, 1, some .string), (2, 1, some (.int .i64)), (3, 1, some (.int .i64)), (4, 1, some (.int .i64)), (5, 1, some (.int .i64)), (6, 1, some (.int .i64)), (7, 1, some (.int .i64))][i]? = some v → ∃ f : Field, fs[i]? = some f ∧ f.offset = v.1 ∧ P.cellsOf f.type = v.2.1 ∧ P.underlying f.type = v.2.2 := by
    intro i v hi
    rw [← hf, List.getElem?_map] at hi
    cases hfi : fs.toList[i]? with
    | none => rw [hfi] at hi; cases hi
    | some f =>
      rw [hfi] at hi
      have hi := Option.some.inj hi
      refine ⟨f, by rw [← Array.getElem?_toList]; exact hfi, ?_, ?_, ?_⟩
      · rw [← hi]
      · rw [← hi]
      · rw [← hi]
  have hfs : xs.length = 8 := by
    rw [hlen]
    have := congrArg List.length hf
    simpa using this
  match cs, hl, xs, hfs with
  | [v0, v1, v2, v3, v4, v5, v6, v7], _, [x0, x1, x2, x3, x4, x5, x6, x7], _ =>
    obtain ⟨f0, g0, a0, b0, u0⟩ := hg 0 _ rfl
    obtain ⟨f1, g1, a1, b1, u1⟩ := hg 1 _ rfl
    obtain ⟨f2, g2, a2, b2, u2⟩ := hg 2 _ rfl
    obtain ⟨f3, g3, a3, b3, u3⟩ := hg 3 _ rfl
    obtain ⟨f4, g4, a4, b4, u4⟩ := hg 4 _ rfl
    obtain ⟨f5, g5, a5, b5, u5⟩ := hg 5 _ rfl
    obtain ⟨f6, g6, a6, b6, u6⟩ := hg 6 _ rfl
    obtain ⟨f7, g7, a7, b7, u7⟩ := hg 7 _ rfl
    have t0 := hx 0 f0 g0
    have t1 := hx 1 f1 g1
    have t2 := hx 2 f2 g2
    have t3 := hx 3 f3 g3
    have t4 := hx 4 f4 g4
    have t5 := hx 5 f5 g5
    have t6 := hx 6 f6 g6
    have t7 := hx 7 f7 g7
    rw [a0, b0] at t0
    rw [a1, b1] at t1
    rw [a2, b2] at t2
    rw [a3, b3] at t3
    rw [a4, b4] at t4
    rw [a5, b5] at t5
    rw [a6, b6] at t6
    rw [a7, b7] at t7
    obtain ⟨y0, e0, _, _⟩ := DataW.trod_int u0 t0
    obtain ⟨y1, e1, k1, _⟩ := DataW.trod_string u1 t1
    obtain ⟨y2, e2, _, _⟩ := DataW.trod_int u2 t2
    obtain ⟨y3, e3, _, _⟩ := DataW.trod_int u3 t3
    obtain ⟨y4, e4, _, _⟩ := DataW.trod_int u4 t4
    obtain ⟨y5, e5, _, _⟩ := DataW.trod_int u5 t5
    obtain ⟨y6, e6, _, _⟩ := DataW.trod_int u6 t6
    obtain ⟨y7, e7, _, _⟩ := DataW.trod_int u7 t7
    simp only [List.drop_succ_cons, List.drop_zero, List.take_succ_cons, List.take_zero, List.cons.injEq, and_true] at e0 e1 e2 e3 e4 e5 e6 e7
    subst e0; subst e1; subst e2; subst e3; subst e4; subst e5; subst e6; subst e7
    refine ⟨⟨y0, y1, y2, y3, y4, y5, y6, y7⟩, rfl, _, rfl, ?_⟩
    show some x1.1 = _
    rw [k1]
theorem weights_all {e : TypeId} {l : List (DataW H)} {d : DataW H} (hd : d ∈ l) {n : Nat} (hn : n ∈ d.weights P e) : n ∈ DataW.weightsAll P e l := by
  induction l with
  | nil => cases hd
  | cons x l ih =>
    simp only [DataW.weightsAll, List.mem_append]
    rcases List.mem_cons.1 hd with rfl | hd
    · exact Or.inl hn
    · exact Or.inr (ih hd)
theorem flatR_get {l : List El} {j : Nat} {u : Value} (h : (ER.flat l)[j]? = some u) : ∃ x, l[j / 8]? = some x ∧ (cellsE x)[j % 8]? = some u := by
  have hj := (List.getElem?_eq_some_iff.1 h).1
  rw [flatR_len] at hj
  have hj : j < l.length * 8 := hj
  have hi : j / 8 < l.length := by omega
  refine ⟨l[j / 8], List.getElem?_eq_getElem hi, ?_⟩
  have hc : j % 8 < (cellsE l[j / 8]).length := by show j % 8 < 8; omega
  have := flatR_at ER (l := l) (k := j / 8) (List.getElem?_eq_getElem hi) (j := j % 8) (List.getElem?_eq_getElem hc)
  rw [show j / 8 * ER.m + j % 8 = j by show j / 8 * 8 + j % 8 = j; omega, h] at this
  rw [List.getElem?_eq_getElem hc, Option.some.inj this]
/-- A slice of such structs; the last strings' sizes out of the weights. -/
theorem open_elems {t e : TypeId} {fs : Array Field} {fuel : Nat} {A : Option Addr} {len cap : Nat} {d : DataW H} {p : List MemPlace} (ht : P.underlying t = some (.slice e)) (he : P.underlying e = some (.struct fs))
    (hf : fs.toList.map (fun f => (f.offset, P.cellsOf f.type, P.underlying f.type)) = [(0, 1, some (.int .i64)), (1, 1, some .string), (2, 1, some (.int .i64)), (3, 1, some (.int .i64)), (4, 1, some (.int .i64)), (5, 1, some (.int .i64)), (6, 1, some (.int .i64)), (7, 1, some (.int .i64))]) (ce : P.cellsOf e = 8)
    (h : DataW.trod enc P w base spare held fuel t [.slice A len cap] = some (d, p)) (hz : (d.weights P t).all (· ≤ reachBytes) = true) : ∃ l : List El, len = l.length ∧ RRow ER w A l ∧ SzF l ∧ len ≤ cap := by
  rcases Deep.open_slice ht h with ⟨h0, _⟩ | ⟨a, len', cap', m, n, D, Pl, h0, hb, hl, hm, hmm, hd, hx⟩
  · injection h0 with h0
    injection h0 with e1 e2 e3
    subst e1; subst e2; subst e3
    exact ⟨[], rfl, RRow.nil, (fun x hx => by cases hx), Nat.le_refl _⟩
  · injection h0 with h0
    injection h0 with e1 e2 e3
    subst e1; subst e2; subst e3
    have hlm : len ≤ m := by rw [hmm]; split <;> omega
    have hd := congrArg Prod.fst hd
    simp only at hd
    subst hd
    have each : ∀ i, i < len → ∃ y : El, (∀ j u, (cellsE y)[j]? = some u → w.cell? (a.add (i * 8 + j)) = some u) ∧ y.name.size ≤ 4611686018427387904 := by
      intro i hi
      obtain ⟨cs', g1, g2⟩ := hx i (by omega)
      rw [ce] at g1
      obtain ⟨_, hlen, hcell⟩ := World.cells?_some g1
      obtain ⟨y, rfl, ds, hD, h7⟩ := open_elem he hf ce g2
      simp only at hD
      refine ⟨y, fun j u hj => ?_, ?_⟩
      · have hj8 : j < 8 := (List.getElem?_eq_some_iff.1 hj).1
        have k := hcell j hj8
        rw [add_add] at k
        rw [k, hj]
      · have hm7 : ∃ f7, (fs.toList.map (·.type))[1]? = some f7 := by
          have := congrArg List.length hf
          rw [List.length_map] at this
          exact ⟨_, List.getElem?_eq_getElem (by rw [List.length_map, this]; decide)⟩
        obtain ⟨t7, ht7⟩ := hm7
        have hw := DataW.weights_mem_each (P := P) ht7 h7 y.name.data.toList.length (by simp [DataW.weights])
        have hw2 : y.name.data.toList.length ∈ (D i).weights P e := by rw [hD]; simpa [DataW.weights, he] using hw
        have hw3 := weights_all (P := P) (e := e) (l := (List.range len).map D) (List.mem_map.2 ⟨i, List.mem_range.2 hi, rfl⟩) hw2
        have hw4 := List.all_eq_true.1 hz y.name.data.toList.length (by simp only [DataW.weights, ht]; exact List.mem_cons_of_mem _ (List.mem_append_left _ hw3))
        have hw5 : y.name.size ≤ reachBytes := by simpa using hw4
        have := reachBytes_lt
        omega
    haveI : Inhabited El := ⟨⟨0, ⟨#[]⟩, 0, 0, 0, 0, 0, 0⟩⟩
    obtain ⟨f, hf'⟩ := Deep.choose_lt each
    have hget : ∀ i, i < len → ((List.range len).map f)[i]? = some (f i) := fun i hi => by
      rw [List.getElem?_map, List.getElem?_range hi]; rfl
    refine ⟨(List.range len).map f, by simp, ⟨fun j u hj => ?_, by simp; omega⟩, fun x hx => ?_, hl⟩
    · obtain ⟨x, h1, h2⟩ := flatR_get hj
      have hi : j / 8 < len := by have := (List.getElem?_eq_some_iff.1 h1).1; simpa using this
      rw [hget _ hi] at h1
      obtain rfl := Option.some.inj h1
      have k := (hf' _ hi).1 _ _ h2
      rw [show j / 8 * 8 + j % 8 = j by omega] at k
      have hblk : a.block < w.heap.size := by have := lt_of_cell k; rwa [add_block] at this
      exact ⟨a, rfl, hblk, k⟩
    · obtain ⟨i, hi, rfl⟩ := List.mem_map.1 hx
      exact (hf' i (List.mem_range.1 hi)).2
end
end Go.Proofs.YtgohocbkkhnmnaaGreatDoor
