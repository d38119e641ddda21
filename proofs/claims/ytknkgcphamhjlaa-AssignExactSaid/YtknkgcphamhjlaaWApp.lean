/-
  Stage 7: append of one number to a list of the call's own, in a plain region and in one that draws; a list just laid.
-/
import Derived.Test.YtknkgcphamhjlaaSrc
import Derived.Test.YtknkgcphamhjlaaSame
import Derived.Deep.RegionLaw
set_option linter.unusedSimpArgs false
set_option linter.unusedVariables false
namespace Go.Proofs.Ytknkgcphamhjlaa
open Go.RowKit

theorem infoIntW : (Try.prog.info? 3).map (fun i => (i.zero, i.size, i.bytes)) = some (some (.int .i64 0), 1, 8) := by kernel_rfl
abbrev OwnI (w : World) (base : Nat) (v : Value) (zs : List Int) : Prop := Own .i64 3 w base v zs
theorem add_sc (a : Addr) (j : Nat) : a.add (j + 1) = ⟨a.block, a.off + (j + 1), none⟩ := rfl
/-- A list that has just been laid. -/
theorem Own.laid {k : IntKind} {T : TypeId} (w : World) (base : Nat) (hb : base ≤ w.heap.size) (zs : List Int) (n : Nat) (hn : zs.length = n) (hm : n ≤ 1000000) : Own k T (w.alloc (.cells (zs.map (Value.int k)).toArray T)) base (.slice (some ⟨w.heap.size, 0, none⟩) n n) zs := by
  subst hn
  refine ⟨by simp, Or.inr ⟨w.heap.size, zs.length, (zs.map (Value.int k)).toArray, rfl, hb, ?_, Nat.le_refl _, by unfold maxLen; omega, by simp, by simp [List.take_of_length_le]⟩⟩
  show (w.heap.push _)[w.heap.size]? = _
  rw [Array.getElem?_push, if_pos rfl]
/-- What an append of one number leaves. -/
def AppI (base : Nat) (v : Value) (zs : List Int) (y : Int) (W : World) (v' : Value) (w' : World) : Prop :=
  Own .i64 3 w' base v' (zs ++ [y]) ∧ W.grownBy w' v.ownBlock ∧ ∃ g c, v' = .slice (some ⟨g, 0, none⟩) (zs.length + 1) c ∧ g < w'.heap.size ∧ (v.ownBlock = some g ∨ g = W.heap.size)
theorem news_one {w0 : World} {y : Int} : ∀ j u, ([y].map (Value.int .i64))[j]? = some u → (w0.alloc (.cells #[.int .i64 y] 3)).cell? ((⟨w0.heap.size, 0, none⟩ : Addr).add j) = some u := news_int (k := .i64) (W := w0) (T := 3) (ys := [y])
theorem wpList_appI (W : World) {ops : Array Oper} {rest : List Oper} {o : Oper} {a : Act} {Q : Exit → Act → World → Prop} (hgd : o.guard = none) (s x : Operand)
    (ho : o.op = .call { callee := .builtin .append, args := #[s, x], argTypes := #[22, 22] }) (base : Nat) (v : Value) (zs : List Int) (hs : a.eval s = v) (O : Own .i64 3 W base v zs)
    (y : Int) (w0 : World) (hW : W = w0.alloc (.cells #[.int .i64 y] 3)) (z : Nat) (hz : w0.heap.size = z) (c : Nat) (hx : a.eval x = .slice (some ⟨z, 0, none⟩) 1 c)
    (hl : zs.length + 1 ≤ 1000000000) (hb : base ≤ W.heap.size)
    (h : ∀ v' w', AppI base v zs y W v' w' → wpList Try.prog ops Q rest (a.put o.dst v') w') : wpList Try.prog ops Q (o :: rest) a W := by
  obtain ⟨i0, hi, hz0, hz1, hz2⟩ := info_parts infoIntW
  subst hz
  refine wpList_append_lies W hgd s x 22 ho base 3 i0 (.int .i64 0) 1 8 Try.underlying22 hi hz0 hz1 hz2 rfl (by decide) v zs.length (zs.map (Value.int .i64)) hs O ⟨w0.heap.size, 0, none⟩ 1 c ([y].map (Value.int .i64)) hx rfl (by rw [hW]; exact news_one) (one_cells (ys := [y])) (by decide) (by unfold maxLen; omega) (by omega) hb W.heap.size rfl ?_
  intro g cap w1 hown hg hat hlt
  exact h _ w1 ⟨Own.app (zs := zs) (ys := [y]) hown rfl rfl, hg, g, cap, rfl, hlt, hat⟩
theorem step_appI (W : World) {ops : Array Oper} {o : Oper} {a : Act} {K : Act → World → Prop} {Q : Exit → Act → World → Prop} {E : Prop} (hgd : o.guard = none) (s x : Operand)
    (ho : o.op = .call { callee := .builtin .append, args := #[s, x], argTypes := #[22, 22] }) (base : Nat) (v : Value) (zs : List Int) (hs : a.eval s = v) (O : Own .i64 3 W base v zs)
    (y : Int) (w0 : World) (hW : W = w0.alloc (.cells #[.int .i64 y] 3)) (z : Nat) (hz : w0.heap.size = z) (c : Nat) (hx : a.eval x = .slice (some ⟨z, 0, none⟩) 1 c)
    (hl : zs.length + 1 ≤ 1000000000) (hb : base ≤ W.heap.size)
    (h : ∀ v' w', AppI base v zs y W v' w' → K (a.put o.dst v') w') : if Region.wanted o (yielded ops a.tmps) = true then Oper.wp Try.prog o a W K Q else E := by
  obtain ⟨i0, hi, hz0, hz1, hz2⟩ := info_parts infoIntW
  subst hz
  refine step_append_lies W hgd s x 22 ho base 3 i0 (.int .i64 0) 1 8 Try.underlying22 hi hz0 hz1 hz2 rfl (by decide) v zs.length (zs.map (Value.int .i64)) hs O ⟨w0.heap.size, 0, none⟩ 1 c ([y].map (Value.int .i64)) hx rfl (by rw [hW]; exact news_one) (one_cells (ys := [y])) (by decide) (by unfold maxLen; omega) (by omega) hb W.heap.size rfl ?_
  intro g cap w1 hown hg hat hlt
  exact h _ w1 ⟨Own.app (zs := zs) (ys := [y]) hown rfl rfl, hg, g, cap, rfl, hlt, hat⟩
theorem le_allocW {w : World} {base : Nat} (h : base ≤ w.heap.size) {o : Obj} : base ≤ (w.alloc o).heap.size := Nat.le_trans h (by simp)
/-- Old memory behind such an append. -/
theorem AppI.below {base : Nat} {w wr w1 : World} {o : Obj} {vo v1 : Value} {zs : List Int} {y : Int} (A : AppI base vo zs y (wr.alloc o) v1 w1) (h : Below base w wr) (hb : base ≤ wr.heap.size) (O : Own .i64 3 wr base vo zs) : Below base w w1 :=
  (h.alloc hb o).grown A.2.1 (le_allocW hb) (fun j hj => (own_block O hj).1)
theorem AppI.belowN {base n : Nat} {w wr w1 : World} {o : Obj} {vo v1 : Value} {zs : List Int} {y : Int} (A : AppI base vo zs y ((wr.drewN n).alloc o) v1 w1) (h : Below base w wr) (hb : base ≤ wr.heap.size) (O : Own .i64 3 wr base vo zs) : Below base w w1 :=
  AppI.below (wr := wr.drewN n) A (h.trans ⟨rfl, rfl, rfl, Nat.le_refl _, fun _ _ => rfl⟩) hb (O.drewN n)
/-- What has grown since w1 is the list v, which was block g0, or is younger. -/
structure Gr (w1 : World) (g0 : Option Nat) (v : Value) (w' : World) : Prop where
  gr : w1.grownBy w' g0
  own : v.ownBlock = g0 ∨ ∀ g, v.ownBlock = some g → w1.heap.size ≤ g
theorem Gr.refl (w : World) (v : Value) : Gr w v.ownBlock v w := ⟨World.grownBy.refl w _, Or.inl rfl⟩
theorem Gr.nil (w : World) (g0 : Option Nat) : Gr w g0 (.slice none 0 0) w := ⟨World.grownBy.refl w _, Or.inr (fun g h => by cases h)⟩
theorem Gr.alloc {w1 wr : World} {g0 : Option Nat} {v : Value} (h : Gr w1 g0 v wr) (o : Obj) : Gr w1 g0 v (wr.alloc o) :=
  ⟨⟨h.gr.os, h.gr.tape, h.gr.output, Nat.le_trans h.gr.size (by simp), fun k hk hn => (Below.heap_alloc _ _ _ (Nat.lt_of_lt_of_le hk h.gr.size)).trans (h.gr.block k hk hn)⟩, h.own⟩
theorem Gr.drewN {w1 wr : World} {g0 : Option Nat} {v : Value} (h : Gr w1 g0 v wr) (n : Nat) : Gr w1 g0 v (wr.drewN n) :=
  ⟨⟨h.gr.os, h.gr.tape, h.gr.output, h.gr.size, h.gr.block⟩, h.own⟩
theorem Gr.below {w1 wr w2 : World} {g0 : Option Nat} {v : Value} (h : Gr w1 g0 v wr) (b : Below wr.heap.size wr w2) : Gr w1 g0 v w2 :=
  ⟨⟨b.os.trans h.gr.os, b.tape.trans h.gr.tape, b.output.trans h.gr.output, Nat.le_trans h.gr.size b.size, fun k hk hn => (b.block k (Nat.lt_of_lt_of_le hk h.gr.size)).trans (h.gr.block k hk hn)⟩, h.own⟩
theorem Gr.app {w1 W w2 : World} {g0 : Option Nat} {base : Nat} {v v' : Value} {zs : List Int} {y : Int} (h : Gr w1 g0 v W) (A : AppI base v zs y W v' w2) : Gr w1 g0 v' w2 := by
  obtain ⟨_, hg, g, c, rfl, hlt, hat⟩ := A
  refine ⟨⟨hg.os.trans h.gr.os, hg.tape.trans h.gr.tape, hg.output.trans h.gr.output, Nat.le_trans h.gr.size hg.size, fun k hk hn => (hg.block k (Nat.lt_of_lt_of_le hk h.gr.size) ?_).trans (h.gr.block k hk hn)⟩, ?_⟩
  · intro e
    rcases h.own with ho | ho
    · rw [← ho] at hn; exact hn e
    · have := ho k e.symm; omega
  · rcases hat with hat | hat
    · rcases h.own with ho | ho
      · exact Or.inl (by rw [← ho, hat]; rfl)
      · exact Or.inr (fun g' hg' => by
          have e : g = g' := by simpa [Value.ownBlock] using hg'
          subst e; exact ho g hat)
    · refine Or.inr (fun g' hg' => ?_)
      have e : g = g' := by simpa [Value.ownBlock] using hg'
      subst e
      have := h.gr.size
      omega
theorem Gr.keep {k : IntKind} {T : TypeId} {w1 wr : World} {g0 : Option Nat} {v u : Value} {base : Nat} {zs : List Int} (h : Gr w1 g0 v wr) (O : Own k T w1 base u zs) (hn : u.ownBlock = none ∨ u.ownBlock ≠ g0) : Own k T wr base u zs := O.kept h.gr hn
theorem Gr.base {w w1 wr : World} {g0 : Option Nat} {v : Value} {B : Nat} (h : Gr w1 g0 v wr) (b : Below B w w1) (hB : B ≤ w1.heap.size) (h0 : ∀ g, g0 = some g → B ≤ g) : Below B w wr := b.grown h.gr hB h0
theorem Gr.cellAt {w1 wr : World} {g0 : Option Nat} {v : Value} {base n c1 : Nat} {a1 : Addr} {zs : List Int} (h : Gr w1 g0 v wr) (O : Own .i64 3 w1 base (.slice (some a1) n c1) zs)
    (hne : (Value.slice (some a1) n c1).ownBlock = none ∨ (Value.slice (some a1) n c1).ownBlock ≠ g0) (j : Nat) (hj : j < zs.length) : wr.cell? (a1.add j) = some (.int .i64 (zs.getD j 0)) := by
  obtain ⟨A, c, e, R, _⟩ := (h.keep O hne).slice
  injection e with e1 e2 e3
  subst e1
  obtain ⟨ad, e, _, hc⟩ := R j hj
  injection e with e
  subst e
  exact hc
theorem OwnI.read {w : World} {base : Nat} {v : Value} {zs : List Int} (h : Own .i64 3 w base v zs) : ∃ A c, v = .slice A zs.length c ∧ Row .i64 w w.heap.size A zs := by
  obtain ⟨A, c, e, R, _⟩ := h.slice
  exact ⟨A, c, e, R⟩
/-- A result of a list and an error. -/
def PairPost (l : List Int) (er : Int) (w : World) (e : Ending) (w' : World) : Prop := ∃ v, e = .returned (.tuple #[v, .int .i64 er]) ∧ Own .i64 3 w' w.heap.size v l ∧ Below w.heap.size w w'
theorem PairPost.mk' {l : List Int} {er : Int} {w w' : World} {v : Value} (h1 : Own .i64 3 w' w.heap.size v l) (h2 : Below w.heap.size w w') : PairPost l er w (.returned (.tuple #[v, .int .i64 er])) w' := ⟨v, rfl, h1, h2⟩
theorem PairPost.of {p : List Int × Int} {l : List Int} {er : Int} {w w' : World} {v : Value} (hp : p = (l, er)) (h1 : Own .i64 3 w' w.heap.size v l) (h2 : Below w.heap.size w w') : PairPost p.1 p.2 w (.returned (.tuple #[v, .int .i64 er])) w' := by
  subst hp; exact ⟨v, rfl, h1, h2⟩
theorem box1W (w : World) (o : Obj) : Below w.heap.size w (w.alloc o) := (Below.refl _ _).alloc (Nat.le_refl _) _
end Go.Proofs.Ytknkgcphamhjlaa
