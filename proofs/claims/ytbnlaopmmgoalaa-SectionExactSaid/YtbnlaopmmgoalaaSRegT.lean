/-
  Stage 5: a literal of three picks: whatever order they come in.
-/
import Derived.Test.YtbnlaopmmgoalaaReg
import Derived.Test.YtbnlaopmmgoalaaLoc
import Derived.Test.YtbnlaopmmgoalaaSMk
set_option linter.unusedSimpArgs false
set_option linter.unusedVariables false
namespace Go.Proofs.Ytbnlaopmmgoalaa
open Go.RowKit

theorem TOwn.prow {T : TypeId} {w : World} {base n c : Nat} {A : Option Addr} {l : List Pul} (h : TOwn T w base (.slice A n c) l) : PRow w A l := by
  obtain ⟨A', c', e, R, _⟩ := h.full
  injection e with e1
  rw [e1]; exact R
theorem TOwn.at3 {T : TypeId} {w : World} {base g n c : Nat} {l : List Pul} (h : TOwn T w base (.slice (some ⟨g, 0, none⟩) n c) l) (hn : n = l.length) {k : Nat} (hk : k < l.length) :
    (w.cell? ⟨g, k * 3, none⟩ = some (.int .i64 (l.getD k (0, 0, 0)).1) ∧ w.cell? ⟨g, k * 3 + 1, none⟩ = some (.int .i64 (l.getD k (0, 0, 0)).2.1) ∧ w.cell? ⟨g, k * 3 + 2, none⟩ = some (.int .i64 (l.getD k (0, 0, 0)).2.2)) ∧
    w.frozen? ⟨g, k * 3, none⟩ = false ∧ w.frozen? ⟨g, k * 3 + 1, none⟩ = false ∧ w.frozen? ⟨g, k * 3 + 2, none⟩ = false := by
  subst hn
  have hl := flatP_len l
  obtain ⟨e0, e1, e2⟩ := flatP_at l k
  refine ⟨⟨?_, ?_, ?_⟩, Flat.frozen h _, Flat.frozen h _, Flat.frozen h _⟩
  · rw [← e0]; exact Flat.cell h _ (by omega)
  · rw [← e1]; exact Flat.cell h _ (by omega)
  · rw [← e2]; exact Flat.cell h _ (by omega)
theorem flatP_set (l : List Pul) (k : Nat) (p : Pul) : flatP (l.set k p) = (((flatP l).set (k * 3) p.1).set (k * 3 + 1) p.2.1).set (k * 3 + 2) p.2.2 := by
  induction l generalizing k with
  | nil => rfl
  | cons q l ih =>
    cases k with
    | zero => rfl
    | succ k =>
      rw [show (k + 1) * 3 = k * 3 + 1 + 1 + 1 by omega]
      show q.1 :: q.2.1 :: q.2.2 :: flatP (l.set k p) = _
      rw [ih]
      rfl
theorem TOwn.set3 {T : TypeId} {w : World} {base g n c : Nat} {l : List Pul} (h : TOwn T w base (.slice (some ⟨g, 0, none⟩) n c) l) (hn : n = l.length) (k : Nat) (d t s : Int) :
    TOwn T (((w.setCell ⟨g, k * 3, none⟩ (.int .i64 d)).setCell ⟨g, k * 3 + 1, none⟩ (.int .i64 t)).setCell ⟨g, k * 3 + 2, none⟩ (.int .i64 s)) base (.slice (some ⟨g, 0, none⟩) n c) (l.set k (d, t, s)) := by
  subst hn
  unfold TOwn
  rw [flatP_set, List.length_set]
  exact Flat.store (Flat.store (Flat.store h _ _) _ _) _ _
theorem Lst.moves {m : Nat} {w w' : World} {b n : Nat} (h : Lst w b n) (k : Moves m w w') (hb : b ≠ m) : Lst w' b n :=
  ⟨fun j hj => let ⟨v, hv⟩ := h.cs j hj; ⟨v, (k.cell (p := ⟨b, j, none⟩) h.lt hb).trans hv⟩, Nat.lt_of_lt_of_le h.lt k.size⟩
/-- The state behind each of the picks: the maker m, the list l in block g, a second list p of the call's own in younger memory, old memory. -/
structure RSt (T T2 : TypeId) (m g n c base base2 : Nat) (v2 : Value) (p : List Pul) (w0 : World) (l : List Pul) (q : World) (N : Nat) : Prop where
  maker : IsMk q m N
  own : TOwn T q base (.slice (some ⟨g, 0, none⟩) n c) l
  own2 : TOwn T2 q base2 v2 p
  bel : Moves m w0 q
  gt : m < base
  ge : base ≤ g
  lt2 : g < base2
  old : w0.heap.size ≤ base
theorem RSt.below {T T2 : TypeId} {m g n c base base2 N : Nat} {v2 : Value} {p l : List Pul} {w0 q q' : World} (h : RSt T T2 m g n c base base2 v2 p w0 l q N) (k : Below q.heap.size q q') : RSt T T2 m g n c base base2 v2 p w0 l q' N :=
  ⟨h.maker.stays' k, h.own.below k, h.own2.below k, h.bel.trans (Moves.of_below k), h.gt, h.ge, h.lt2, h.old⟩
theorem RSt.moves {T T2 : TypeId} {m g n c base base2 N M : Nat} {v2 : Value} {p l : List Pul} {w0 q q' : World} (h : RSt T T2 m g n c base base2 v2 p w0 l q N) (k : Moves m q q') (hk : IsMk q' m M) : RSt T T2 m g n c base base2 v2 p w0 l q' M :=
  ⟨hk, h.own.moves k h.gt, h.own2.moves k (by have := h.gt; have := h.ge; have := h.lt2; omega), h.bel.trans k, h.gt, h.ge, h.lt2, h.old⟩
theorem RSt.drewN {T T2 : TypeId} {m g n c base base2 N k : Nat} {v2 : Value} {p l : List Pul} {w0 q : World} (h : RSt T T2 m g n c base base2 v2 p w0 l q N) : RSt T T2 m g n c base base2 v2 p w0 l (q.drewN k) N :=
  ⟨h.maker.drewN, h.own.drewN k, h.own2.drewN k, h.bel.drewN, h.gt, h.ge, h.lt2, h.old⟩
/-- An element is written. -/
theorem RSt.set3 {T T2 : TypeId} {m g n c base base2 N : Nat} {v2 : Value} {p l : List Pul} {w0 q : World} (h : RSt T T2 m g n c base base2 v2 p w0 l q N) (hn : n = l.length) (k : Nat) (d t s : Int) :
    RSt T T2 m g n c base base2 v2 p w0 (l.set k (d, t, s)) (((q.setCell ⟨g, k * 3, none⟩ (.int .i64 d)).setCell ⟨g, k * 3 + 1, none⟩ (.int .i64 t)).setCell ⟨g, k * 3 + 2, none⟩ (.int .i64 s)) N := by
  have hm : m < g := Nat.lt_of_lt_of_le h.gt h.ge
  have ho : w0.heap.size ≤ g := Nat.le_trans h.old h.ge
  exact ⟨((h.maker.setCell (p := ⟨g, k * 3, none⟩) hm _).setCell (p := ⟨g, k * 3 + 1, none⟩) hm _).setCell (p := ⟨g, k * 3 + 2, none⟩) hm _, h.own.set3 hn k d t s,
    ((h.own2.setOther (p := ⟨g, k * 3, none⟩) h.lt2 _).setOther (p := ⟨g, k * 3 + 1, none⟩) h.lt2 _).setOther (p := ⟨g, k * 3 + 2, none⟩) h.lt2 _,
    ((h.bel.setCell (p := ⟨g, k * 3, none⟩) (Or.inr ho) _).setCell (p := ⟨g, k * 3 + 1, none⟩) (Or.inr ho) _).setCell (p := ⟨g, k * 3 + 2, none⟩) (Or.inr ho) _, h.gt, h.ge, h.lt2, h.old⟩

section
variable {ops : Array Oper} {Q : Exit → Act → World → Prop} {S : World → Prop} {tl : Nat → Bool}
theorem run_lit3 {ρ : Operand → Value} {o : Oper} {x y z : Operand} {a b c : Int} (hop : o.op = .buildSlice 27 3 #[(0, x), (1, y), (2, z)]) (hx : ρ x = .int .i64 a) (hy : ρ y = .int .i64 b) (hz : ρ z = .int .i64 c) (w : World) :
    (execOp ρ o).run Try.prog w = .ok (.value (.slice (some ⟨w.heap.size, 0, none⟩) 3 3)) (w.alloc (.cells #[.int .i64 a, .int .i64 b, .int .i64 c] 3)) := by
  unfold execOp
  rw [hop]
  simp only [hx, hy, hz]
  go_simp
theorem run_build3 {ρ : Operand → Value} {o : Oper} {x y z : Operand} {a b c : Int} (hop : o.op = .build 24 #[(0, x), (1, y), (2, z)]) (hx : ρ x = .int .i64 a) (hy : ρ y = .int .i64 b) (hz : ρ z = .int .i64 c) (w : World) :
    (execOp ρ o).run Try.prog w = .ok (.value (.agg #[.int .i64 a, .int .i64 b, .int .i64 c])) w := by
  unfold execOp
  rw [hop]
  simp only [hx, hy, hz]
  go_simp
theorem run_pick3 {a : Act} {o : Oper} {x y : Operand} {ts : Array TypeId} {u v : Value} (hop : o.op = .call { callee := .value (.func 17), args := #[x, y], argTypes := ts }) (hx : a.eval x = u) (hy : a.eval y = v) (w : World) :
    (execOp a.eval o).run Try.prog w = .ok (.enter 17 #[u, v]) w := by
  have hf : a.eval (.func 17) = .func (.func 17) #[] #[] := rfl
  unfold execOp
  rw [hop]
  simp [hf, go_sem, Result.andThen]
  refine ⟨?_, ?_⟩
  · rw [← hx]; cases x <;> simp [Act.eval]
  · rw [← hy]; cases y <;> simp [Act.eval]
theorem run_next2 {a : Act} {o : Oper} {x y : Operand} {ts : Array TypeId} {u v : Value} (hop : o.op = .call { callee := .value (.func 16), args := #[x, y], argTypes := ts }) (hx : a.eval x = u) (hy : a.eval y = v) (w : World) :
    (execOp a.eval o).run Try.prog w = .ok (.enter 16 #[u, v]) w := by
  have hf : a.eval (.func 16) = .func (.func 16) #[] #[] := rfl
  unfold execOp
  rw [hop]
  simp [hf, go_sem, Result.andThen]
  refine ⟨?_, ?_⟩
  · rw [← hx]; cases x <;> simp [Act.eval]
  · rw [← hy]; cases y <;> simp [Act.eval]
/-- A list of three numbers is laid. -/
theorem stepB {T T2 : TypeId} {m g n c base base2 N : Nat} {v2 : Value} {p l : List Pul} {w0 q : World} {i : Nat} {o : Oper} {fuel : Nat} {listed : Array Bool} {a : Act} {u v t : Int} {dd : Option Tmp} (ho : ops[i]? = some o) (hg : o.guard = none) (hd : o.dst = dd)
    (hrun : (execOp a.eval o).run Try.prog q = .ok (.value (.slice (some ⟨q.heap.size, 0, none⟩) 3 3)) (q.alloc (.cells #[.int .i64 u, .int .i64 v, .int .i64 t] 3))) (hR : RSt T T2 m g n c base base2 v2 p w0 l q N) (hS : ∀ q, RSt T T2 m g n c base base2 v2 p w0 l q N → S q)
    (k : ∀ q1 b, b = q.heap.size → RSt T T2 m g n c base base2 v2 p w0 l q1 N → Lst q1 b 3 → b ≠ m → (∀ b', Lst q b' 3 → Lst q1 b' 3) → AnyT Try.prog ops Q S tl fuel (listed.setIfInBounds i true) (a.put dd (.slice (some ⟨b, 0, none⟩) 3 3)) q1) :
    wpOp Try.prog ops Q i (fun a' w' => (tl i = false → S w') ∧ AnyT Try.prog ops Q S tl fuel (listed.setIfInBounds i true) a' w') a q := by
  have hB := (Below.refl q.heap.size q).alloc (Nat.le_refl _) (.cells #[.int .i64 u, .int .i64 v, .int .i64 t] 3)
  have hR1 := hR.below hB
  refine AnyT.yield ho hg hd hrun (fun _ => hS _ hR1) ?_
  exact k _ _ rfl hR1 (Lst.new (zs := [u, v, t]) _ rfl) (by have := hR.maker.lt; omega) (fun b' h => h.below hB)
/-- One of them is picked. -/
theorem stepC {T T2 : TypeId} {m g n c base base2 N : Nat} {v2 : Value} {p l : List Pul} {w0 q : World} {i : Nat} {o : Oper} {fuel : Nat} {listed : Array Bool} {a : Act} {b : Nat} {dd : Option Tmp} (ho : ops[i]? = some o) (hg : o.guard = none) (hd : o.dst = dd)
    (hrun : (execOp a.eval o).run Try.prog q = .ok (.enter 17 #[.pointer (some ⟨m, 0, none⟩), .slice (some ⟨b, 0, none⟩) 3 3]) q)
    (hR : RSt T T2 m g n c base base2 v2 p w0 l q N) (hN : N ≤ 1000000) (hL : Lst q b 3) (hb : b ≠ m) (hS : ∀ q, RSt T T2 m g n c base base2 v2 p w0 l q (N + 1) → S q)
    (k : ∀ (v : Int) (q1 : World), RSt T T2 m g n c base base2 v2 p w0 l q1 (N + 1) → (∀ b', b' ≠ m → Lst q b' 3 → Lst q1 b' 3) → AnyT Try.prog ops Q S tl fuel (listed.setIfInBounds i true) (a.put dd (.int .i64 v)) q1) :
    wpOp Try.prog ops Q i (fun a' w' => (tl i = false → S w') ∧ AnyT Try.prog ops Q S tl fuel (listed.setIfInBounds i true) a' w') a q := by
  refine AnyT.enter ho hg hd hrun (pick_any m N (fun _ => True) b 3 3 q hR.maker (by omega) (by omega) (by omega) hb hL.lt (fun i hi => by obtain ⟨v, hv⟩ := hL.cs i hi; exact ⟨v, hv, trivial⟩)) ?_
  rintro e q1 ⟨v, rfl, _, k1, k2⟩
  have hR1 := hR.moves k2 k1
  exact ⟨_, rfl, fun _ => hS _ hR1, k v q1 hR1 (fun b' hb' h => h.moves k2 hb')⟩
end
end Go.Proofs.Ytbnlaopmmgoalaa
