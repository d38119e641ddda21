/-
  Stage 14: rows of lists of which one is replaced by a fresh list; append of a row in a region that draws its order.
-/
import Derived.Test.YtkopbnppjhdbgaaZB
set_option linter.unusedSimpArgs false
set_option linter.unusedVariables false
namespace Go.Proofs.Ytkopbnppjhdbgaa
open Go.RowKit Go.Lib

theorem AnyT.appR {ops : Array Oper} {Q : Exit → Act → World → Prop} {S : World → Prop} {tl : Nat → Bool} {i : Nat} {o : Oper} {fuel : Nat} {listed : Array Bool} {a : Act} {W : World} {d : Option Tmp} (ho : ops[i]? = some o) (hgd : o.guard = none) (hd : o.dst = d) (s x : Operand)
    (hop : o.op = .call { callee := .builtin .append, args := #[s, x], argTypes := #[25, 25] }) (base : Nat) (v : Value) (zs : List Int) (hs : a.eval s = v) (O : Own .i64 3 W base v zs)
    (A : Option Addr) (m c : Nat) (ys : List Int) (hx : a.eval x = .slice A m c) (hA : A = none → m = 0 ∧ c = 0) (hm : m = ys.length) (R : Row .i64 W W.heap.size A ys)
    (hl : zs.length + ys.length ≤ 1000000000) (hb : base ≤ W.heap.size)
    (h : ∀ v' w', Own .i64 3 w' base v' (zs ++ ys) → W.grownBy w' v.ownBlock → (tl i = false → S w') ∧ AnyT Try.prog ops Q S tl fuel (listed.setIfInBounds i true) (a.put d v') w') :
    wpOp Try.prog ops Q i (fun a' w' => (tl i = false → S w') ∧ AnyT Try.prog ops Q S tl fuel (listed.setIfInBounds i true) a' w') a W :=
  AnyT.step ho (fun KK hK => by
    subst hd
    obtain ⟨i0, hi, hz0, hz1, hz2⟩ := info_parts infoIntW
    subst hm
    refine step_app_src hgd s x 25 hop base 3 i0 (.int .i64 0) 1 8 Try.underlying25 hi hz0 hz1 hz2 rfl (by decide) v zs.length (zs.map (Value.int .i64)) hs O A ys.length c (ys.map (Value.int .i64)) hx hA (by simp) R.newsO one_cells (by unfold maxLen; omega) (by omega) hb ?_
    intro v' w' hown hg
    have := h v' w' (Own.app (zs := zs) (ys := ys) hown rfl rfl) hg
    exact hK.out _ _ this.1 this.2)
theorem Row.litG {W w' : World} {z ze : Nat} {y : Int} (h : Row .i64 W W.heap.size (some ⟨z, 0, none⟩) [y]) (hg : W.grownBy w' (some ze)) (hne : z ≠ ze) : Row .i64 w' w'.heap.size (some ⟨z, 0, none⟩) [y] := fun j hj => by
  obtain ⟨ad, e, hlt, hv⟩ := h j hj
  injection e with e
  subst e
  refine ⟨_, rfl, Nat.lt_of_lt_of_le hlt hg.size, ?_⟩
  rw [World.cell?_of_block (w := W) (hg.block _ (by rw [add_block]; exact hlt) (fun e => hne (by rw [add_block] at e; injection e)))]
  exact hv
/-- Lists whose rows lie in no bad block. -/
structure RwO (w : World) (g : Nat) (bad : Nat → Prop) (ls : List (List Nat)) : Prop where
  row : ∀ k, k < ls.length → ∃ a c, w.cell? ⟨g, k, none⟩ = some (.slice a (ls.getD k []).length c) ∧ Row .i64 w w.heap.size a (toZ (ls.getD k [])) ∧ (a = none → (ls.getD k []).length = 0 ∧ c = 0) ∧ (ls.getD k []).length ≤ maxLen ∧ ∀ x, a = some x → ¬ bad x.block
  fz : ∀ j, j < ls.length → w.frozen? ⟨g, j, none⟩ = false
  lt : g < w.heap.size
section
variable {w w' : World} {g : Nat} {bad : Nat → Prop} {ls : List (List Nat)}
theorem RwO.below (h : RwO w g bad ls) (k : Below w.heap.size w w') : RwO w' g bad ls := by
  refine ⟨fun j hj => ?_, fun j hj => (k.frozen (p := ⟨g, j, none⟩) h.lt).trans (h.fz j hj), Nat.lt_of_lt_of_le h.lt k.size⟩
  obtain ⟨a, c, h1, h2, h3, h4, h5⟩ := h.row j hj
  exact ⟨a, c, (k.cell (p := ⟨g, j, none⟩) h.lt).trans h1, h2.below k, h3, h4, h5⟩
theorem Row.setN {W : World} {A : Option Addr} {zs : List Int} (h : Row .i64 W W.heap.size A zs) {p : Addr} (hp : ∀ x, A = some x → x.block ≠ p.block) (u : Value) : Row .i64 (W.setCell p u) (W.setCell p u).heap.size A zs := fun j hj => by
  obtain ⟨x, rfl, hx, hv⟩ := h j hj
  refine ⟨x, rfl, by rw [World.size_setCell]; exact hx, ?_⟩
  rw [World.cell?_setCell_other _ _ _ _ (fun e => hp x rfl (by have := congrArg Addr.block e; rw [add_block] at this; first | exact this | exact this.symm))]
  exact hv
theorem RwO.other (h : RwO w g bad ls) {g2 j : Nat} (hb : bad g2) (hne : g2 ≠ g) (u : Value) : RwO (w.setCell ⟨g2, j, none⟩ u) g bad ls := by
  refine ⟨fun k hk => ?_, fun i hi => by rw [World.frozen?_setCell]; exact h.fz i hi, by rw [World.size_setCell]; exact h.lt⟩
  obtain ⟨a, c, h1, h2, h3, h4, h5⟩ := h.row k hk
  refine ⟨a, c, ?_, h2.setN (p := ⟨g2, j, none⟩) (fun x hx e => h5 x hx (by rw [e]; exact hb)) u, h3, h4, h5⟩
  rw [World.cell?_setCell_other _ _ _ _ (fun e => hne (by have := congrArg Addr.block e; first | exact this | exact this.symm))]
  exact h1
theorem RwO.put (h : RwO w g bad ls) (hb : bad g) {j : Nat} {a : Option Addr} {c : Nat} {p : List Nat} (hR : Row .i64 w w.heap.size a (toZ p)) (hN : a = none → p.length = 0 ∧ c = 0) (hm : p.length ≤ maxLen) (hB : ∀ x, a = some x → ¬ bad x.block) (hj : j < ls.length) :
    RwO (w.setCell ⟨g, j, none⟩ (.slice a p.length c)) g bad (ls.set j p) := by
  refine ⟨fun k hk => ?_, fun i hi => by rw [World.frozen?_setCell]; exact h.fz i (by rw [List.length_set] at hi; exact hi), by rw [World.size_setCell]; exact h.lt⟩
  rw [List.length_set] at hk
  rw [getD_setL hj]
  by_cases e : j = k
  · subst e
    rw [if_pos rfl]
    obtain ⟨a0, c0, h1, -⟩ := h.row j hj
    exact ⟨a, c, World.cell?_setCell_same _ _ _ h1, hR.setN (p := ⟨g, j, none⟩) (fun x hx e => hB x hx (by rw [e]; exact hb)) _, hN, hm, hB⟩
  · rw [if_neg e]
    obtain ⟨a1, c1, h1, h2, h3, h4, h5⟩ := h.row k hk
    refine ⟨a1, c1, ?_, h2.setN (p := ⟨g, j, none⟩) (fun x hx e => h5 x hx (by rw [e]; exact hb)) _, h3, h4, h5⟩
    rw [World.cell?_setCell_other _ _ _ _ (fun q => e (by have := congrArg Addr.off q; first | exact this | exact this.symm))]
    exact h1
theorem RwO.pp (h : RwO w g bad ls) : PP w (some ⟨g, 0, none⟩) (ls.map toZ) := fun k p hk => by
  rw [List.getElem?_map] at hk
  obtain ⟨q, hq, rfl⟩ := Option.map_eq_some_iff.1 hk
  have hkl := (List.getElem?_eq_some_iff.1 hq).1
  obtain ⟨a, c, h1, h2, -, h4, -⟩ := h.row k hkl
  have e : ls.getD k [] = q := by rw [List.getD_eq_getElem?_getD, hq]; rfl
  rw [e] at h1 h2 h4
  exact ⟨_, rfl, h.lt, a, c, by rw [add_own, toZ_len]; exact h1, h2, by rw [toZ_len]; exact h4⟩
theorem RwO.of {F : Nat → Prop} {gs gt base : Nat} {st tr : List (List Nat)} (h : Two F w gs gt base st tr) (hb : ∀ x, base ≤ x → ¬ bad x) : RwO w gs bad st := by
  refine ⟨fun k hk => ?_, fun k hk => by obtain ⟨_, _, hf, _⟩ := h.cut hk; exact hf, h.lts.1⟩
  obtain ⟨v, hA⟩ := h.at_ hk
  rcases hA.own.2 with ⟨ev, hn⟩ | ⟨g', cap, cur, ev, e2, e3, e4, e5, e6, e7⟩
  · obtain ⟨a, c, ev2, R, hm, hm2, hge⟩ := hA.own.slice
    rw [ev] at ev2
    have ea : (none : Option Addr) = a := by injection ev2
    subst ea
    have hl0 : (st.getD k []).length = 0 := by rw [toZ_len] at hn; exact hn
    refine ⟨none, 0, by rw [hA.cell, ev, hl0], R, fun _ => ⟨hl0, rfl⟩, by rw [hl0]; decide, fun x hx => by cases hx⟩
  · obtain ⟨a, c, ev2, R, hm, hm2, hge⟩ := hA.own.slice
    have ev3 := ev2
    rw [ev] at ev2
    have ea : some (⟨g', 0, none⟩ : Addr) = a := by injection ev2
    subst ea
    rw [toZ_len] at ev3 hm2
    refine ⟨_, c, by rw [hA.cell, ev3], R, (fun e => by cases e), hm2, fun x hx => ?_⟩
    injection hx with hx
    subst hx
    exact hb g' e2
theorem PSt.setC {m g n c : Nat} {st : Int} {A : Option Addr} {v : List Int} (h : PSt w m g st A n c v) {p : Addr} (hp : g < p.block) (u : Value) : PSt (w.setCell p u) m g st A n c v :=
  h.under (B := g + 1) ((Below.refl (g + 1) w).setCell (p := p) hp u) (Nat.lt_succ_self g)
theorem JM.setG {w0 wr : World} {b cj N : Nat} {jA : Option Addr} {l : List It} {wt : Int} (h : JM w0 wr b jA cj l wt N) {p : Addr} (hp : b < p.block) (u : Value) : JM w0 (wr.setCell p u) b jA cj l wt N :=
  h.under (B := b + 1) ((Below.refl (b + 1) wr).setCell (p := p) hp u) (Nat.lt_succ_self b)
end
/-- The law's state: the lists before the step, which change, those behind it, the job, the plan. -/
structure StS (w wr : World) (b : Nat) (jA : Option Addr) (jc : Nat) (l : List It) (wt : Int) (M g1 : Nat) (S : Int) (pA : Option Addr) (L pc : Nat) (v : List Int) (gs gt gc gd : Nat) (st tr st2 tr2 : List (List Nat)) : Prop where
  s : RwO wr gs (fun x => x = gs ∨ x = gt) st
  t : RwO wr gt (fun x => x = gs ∨ x = gt) tr
  c : RwO wr gc (fun x => x = gs ∨ x = gt) st2
  d : RwO wr gd (fun x => x = gs ∨ x = gt) tr2
  j : JM w wr b jA jc l wt M
  p : PSt wr w.heap.size g1 S pA L pc v
  o : (b < gs ∧ b < gt) ∧ (g1 < gs ∧ g1 < gt) ∧ gs ≠ gt ∧ (gc ≠ gs ∧ gc ≠ gt) ∧ (gd ≠ gs ∧ gd ≠ gt)
section
variable {w wr w' : World} {b jc M g1 L pc gs gt gc gd : Nat} {jA pA : Option Addr} {l : List It} {wt S : Int} {v : List Int} {st tr st2 tr2 : List (List Nat)}
theorem StS.below (h : StS w wr b jA jc l wt M g1 S pA L pc v gs gt gc gd st tr st2 tr2) (k : Below wr.heap.size wr w') : StS w w' b jA jc l wt M g1 S pA L pc v gs gt gc gd st tr st2 tr2 :=
  ⟨h.s.below k, h.t.below k, h.c.below k, h.d.below k, h.j.below k, h.p.below k, h.o⟩
theorem StS.putS (h : StS w wr b jA jc l wt M g1 S pA L pc v gs gt gc gd st tr st2 tr2) {j : Nat} {a : Option Addr} {c : Nat} {p : List Nat} (hR : Row .i64 wr wr.heap.size a (toZ p)) (hN : a = none → p.length = 0 ∧ c = 0) (hm : p.length ≤ maxLen) (hB : ∀ x, a = some x → ¬ (x.block = gs ∨ x.block = gt)) (hj : j < st.length) :
    StS w (wr.setCell ⟨gs, j, none⟩ (.slice a p.length c)) b jA jc l wt M g1 S pA L pc v gs gt gc gd (st.set j p) tr st2 tr2 :=
  have ⟨⟨o1, _⟩, ⟨o3, _⟩, o5, ⟨o6, _⟩, ⟨o8, _⟩⟩ := h.o
  ⟨h.s.put (Or.inl rfl) hR hN hm hB hj, h.t.other (Or.inl rfl) o5 _, h.c.other (Or.inl rfl) (Ne.symm o6) _, h.d.other (Or.inl rfl) (Ne.symm o8) _, h.j.setG (p := ⟨gs, j, none⟩) o1 _, h.p.setC (p := ⟨gs, j, none⟩) o3 _, h.o⟩
theorem StS.putT (h : StS w wr b jA jc l wt M g1 S pA L pc v gs gt gc gd st tr st2 tr2) {j : Nat} {a : Option Addr} {c : Nat} {p : List Nat} (hR : Row .i64 wr wr.heap.size a (toZ p)) (hN : a = none → p.length = 0 ∧ c = 0) (hm : p.length ≤ maxLen) (hB : ∀ x, a = some x → ¬ (x.block = gs ∨ x.block = gt)) (hj : j < tr.length) :
    StS w (wr.setCell ⟨gt, j, none⟩ (.slice a p.length c)) b jA jc l wt M g1 S pA L pc v gs gt gc gd st (tr.set j p) st2 tr2 :=
  have ⟨⟨_, o2⟩, ⟨_, o4⟩, o5, ⟨_, o7⟩, ⟨_, o9⟩⟩ := h.o
  ⟨h.s.other (Or.inr rfl) (Ne.symm o5) _, h.t.put (Or.inr rfl) hR hN hm hB hj, h.c.other (Or.inr rfl) (Ne.symm o7) _, h.d.other (Or.inr rfl) (Ne.symm o9) _, h.j.setG (p := ⟨gt, j, none⟩) o2 _, h.p.setC (p := ⟨gt, j, none⟩) o4 _, h.o⟩
end
end Go.Proofs.Ytkopbnppjhdbgaa
