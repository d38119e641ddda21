/-
  Stage 6: bytes are appended: two of a number, those of a wagon.
-/
import Derived.Test.YtgiodpepjajlmaaCChk
import Derived.Test.YtgiodpepjajlmaaCWag
import Derived.Test.YtgiodpepjajlmaaMkDigits
import Derived.Laws.Append
import Derived.StillTailTactics
import Derived.Deep.RegionLaw
import Derived.Lib.AppendStr
set_option linter.unusedSimpArgs false
set_option linter.unusedVariables false
namespace Go.Proofs.Ytgiodpepjajlmaa
open Go.RowKit

/-- From w to w' something was appended to v: nothing else has turned; what it lies in now was v's block, or is new. -/
structure App (w : World) (v : Value) (w' : World) (v' : Value) : Prop where
  g : w.grownBy w' v.ownBlock
  o : ∀ b, v'.ownBlock = some b → v.ownBlock = some b ∨ w.heap.size ≤ b
theorem App.refl (w : World) (v : Value) : App w v w v := ⟨⟨rfl, rfl, rfl, Nat.le_refl _, fun _ _ _ => rfl⟩, fun b h => Or.inl h⟩
theorem App.trans {a b c : World} {u v x : Value} (h : App a u b v) (k : App b v c x) : App a u c x := by
  refine ⟨⟨k.g.os.trans h.g.os, k.g.tape.trans h.g.tape, k.g.output.trans h.g.output, Nat.le_trans h.g.size k.g.size, fun i hi hne => ?_⟩, fun i hi => ?_⟩
  · refine (k.g.block i (Nat.lt_of_lt_of_le hi h.g.size) (fun e => ?_)).trans (h.g.block i hi hne)
    rcases h.o i e.symm with g | g
    · exact hne g.symm
    · omega
  · rcases k.o i hi with g | g
    · exact h.o i g
    · exact Or.inr (Nat.le_trans h.g.size g)
theorem App.alloc {w w' : World} {v v' : Value} (h : App w v w' v') (o : Obj) : App w v (w'.alloc o) v' := by
  refine h.trans ⟨World.grownBy_alloc w' o _, fun b h => Or.inl h⟩
theorem App.drewN {w w' : World} {v v' : Value} (h : App w v w' v') (n : Nat) : App w v (w'.drewN n) v' := ⟨⟨h.g.os, h.g.tape, h.g.output, h.g.size, h.g.block⟩, h.o⟩
theorem App.below {w w' : World} {v v' : Value} {base : Nat} (h : App w v w' v') (hb : ∀ b, v.ownBlock = some b → base ≤ b) (hs : base ≤ w.heap.size) : Below base w w' :=
  ⟨h.g.os, h.g.tape, h.g.output, h.g.size, fun i hi => h.g.block i (by omega) (fun e => by have := hb i e.symm; omega)⟩
theorem App.blk {α : Type} {R : Rec α} {w w' : World} {v v' : Value} {b : Nat} {x : α} (h : App w v w' v') (hx : RBlk R w b x) (hne : v.ownBlock ≠ some b) : RBlk R w' b x := hx.grown h.g hne

def AppPost (base : Nat) (v : Value) (zs ys : List Int) (w : World) (e : Ending) (w' : World) : Prop :=
  ∃ v', e = .returned v' ∧ Own .u8 5 w' base v' (zs ++ ys) ∧ App w v w' v'
/-- Two bytes of a number. -/
def pair (n : Int) : List Int := [n / 256, n % 256]
theorem own_le {k : IntKind} {e : TypeId} {w : World} {base : Nat} {v : Value} {zs : List Int} (h : Own k e w base v zs) (hb : base ≤ w.heap.size) : ∀ b, v.ownBlock = some b → base ≤ b := fun b hb => (own_block h hb).1

theorem le_alloc {base : Nat} {w : World} {o : Obj} (h : base ≤ w.heap.size) : base ≤ (w.alloc o).heap.size := by rw [World.size_alloc]; omega
/-- append(v, ys..) onto bytes of the call's own, ys just laid. -/
theorem wpList_app8g (W : World) {ops : Array Oper} {rest : List Oper} {o : Oper} {a : Act} {Q : Exit → Act → World → Prop} (hgd : o.guard = none) (s x : Operand)
    (ho : o.op = .call { callee := .builtin .append, args := #[s, x], argTypes := #[70, 70] }) (base : Nat) (v : Value) (zs : List Int) (hs : a.eval s = v) (O : Own .u8 5 W base v zs)
    (ys : List Int) (w0 : World) (hW : W = w0.alloc (.cells (ys.map (Value.int .u8)).toArray 5)) (z : Nat) (hz : w0.heap.size = z) (m c : Nat) (hm : ys.length = m) (h0 : 0 < m) (hx : a.eval x = .slice (some ⟨z, 0, none⟩) m c)
    (hl : zs.length + m ≤ 1000000000) (hb : base ≤ W.heap.size)
    (h : ∀ v' w', Own .u8 5 w' base v' (zs ++ ys) → App W v w' v' → wpList Try.prog ops Q rest (a.put o.dst v') w') : wpList Try.prog ops Q (o :: rest) a W := by
  obtain ⟨i0, hi, hz0, hz1, hz2⟩ := info_parts infoByte
  subst hm
  subst hz
  refine wpList_append_lies W hgd s x 70 ho base 5 i0 (.int .u8 0) 1 1 Try.underlying70 hi hz0 hz1 hz2 rfl (by decide) v zs.length (zs.map (Value.int .u8)) hs O ⟨w0.heap.size, 0, none⟩ ys.length c (ys.map (Value.int .u8)) hx (by rw [List.length_map, Nat.mul_one]) (by rw [hW]; exact news_int) one_cells h0 (by unfold maxLen; omega) (by omega) hb W.heap.size rfl ?_
  intro g cap w1 hown hg hat hlt
  refine h _ w1 (Own.app hown rfl rfl) ⟨hg, fun b hb => ?_⟩
  have e : g = b := by simpa [Value.ownBlock] using hb
  subst e
  rcases hat with h1 | h1
  · exact Or.inl h1
  · exact Or.inr (by omega)
theorem wpList_app8 (W : World) {ops : Array Oper} {rest : List Oper} {o : Oper} {a : Act} {Q : Exit → Act → World → Prop} (hgd : o.guard = none) (s x : Operand)
    (ho : o.op = .call { callee := .builtin .append, args := #[s, x], argTypes := #[70, 70] }) (base : Nat) (v : Value) (zs : List Int) (hs : a.eval s = v) (O : Own .u8 5 W base v zs)
    (ys : List Int) (w0 : World) (hW : W = w0.alloc (.cells (ys.map (Value.int .u8)).toArray 5)) (m c : Nat) (hm : ys.length = m) (h0 : 0 < m) (hx : a.eval x = .slice (some ⟨w0.heap.size, 0, none⟩) m c)
    (hl : zs.length + m ≤ 1000000000) (hb : base ≤ W.heap.size)
    (h : ∀ v' w', Own .u8 5 w' base v' (zs ++ ys) → App W v w' v' → wpList Try.prog ops Q rest (a.put o.dst v') w') : wpList Try.prog ops Q (o :: rest) a W :=
  wpList_app8g W hgd s x ho base v zs hs O ys w0 hW _ rfl m c hm h0 hx hl hb h

/-- The same at a step of a region that draws its order. -/
theorem step_app8 (W : World) {ops : Array Oper} {o : Oper} {a : Act} {K : Act → World → Prop} {Q : Exit → Act → World → Prop} {E : Prop} (hgd : o.guard = none) (s x : Operand)
    (ho : o.op = .call { callee := .builtin .append, args := #[s, x], argTypes := #[70, 70] }) (base : Nat) (v : Value) (zs : List Int) (hs : a.eval s = v) (O : Own .u8 5 W base v zs)
    (ys : List Int) (w0 : World) (hW : W = w0.alloc (.cells (ys.map (Value.int .u8)).toArray 5)) (m c : Nat) (hm : ys.length = m) (h0 : 0 < m) (hx : a.eval x = .slice (some ⟨w0.heap.size, 0, none⟩) m c)
    (hl : zs.length + m ≤ 1000000000) (hb : base ≤ W.heap.size)
    (h : ∀ v' w', Own .u8 5 w' base v' (zs ++ ys) → App W v w' v' → K (a.put o.dst v') w') :
    if Region.wanted o (yielded ops a.tmps) = true then Oper.wp Try.prog o a W K Q else E := by
  obtain ⟨i0, hi, hz0, hz1, hz2⟩ := info_parts infoByte
  subst hm
  refine step_append_lies W hgd s x 70 ho base 5 i0 (.int .u8 0) 1 1 Try.underlying70 hi hz0 hz1 hz2 rfl (by decide) v zs.length (zs.map (Value.int .u8)) hs O ⟨w0.heap.size, 0, none⟩ ys.length c (ys.map (Value.int .u8)) hx (by rw [List.length_map, Nat.mul_one]) (by rw [hW]; exact news_int) one_cells h0 (by unfold maxLen; omega) (by omega) hb W.heap.size rfl ?_
  intro g cap w1 hown hg hat hlt
  refine h _ w1 (Own.app hown rfl rfl) ⟨hg, fun b hb => ?_⟩
  have e : g = b := by simpa [Value.ownBlock] using hb
  subst e
  rcases hat with h1 | h1
  · exact Or.inl h1
  · exact Or.inr (by omega)

theorem or_dig : ∀ a b : Fin 10, bits BinOp.or IntKind.u8 (((a : Nat) : Int) * 16) ((b : Nat) : Int) = ((a : Nat) : Int) * 16 + ((b : Nat) : Int) := by decide +kernel
theorem or_digs {c d : Nat} (h1 : 48 ≤ c) (h2 : c ≤ 57) (h3 : 48 ≤ d) (h4 : d ≤ 57) :
    bits BinOp.or IntKind.u8 (IntKind.u8.wrap (IntKind.u8.wrap ((c : Int) - 48) * 16)) (IntKind.u8.wrap ((d : Int) - 48)) = ((c : Int) - 48) * 16 + ((d : Int) - 48) := by
  rw [IntWalk.u8_in ((c : Int) - 48) (by omega), IntWalk.u8_in ((d : Int) - 48) (by omega), IntWalk.u8_in (((c : Int) - 48) * 16) (by omega)]
  have := or_dig ⟨c - 48, by omega⟩ ⟨d - 48, by omega⟩
  simp only at this
  rw [show ((c : Int) - 48) = ((c - 48 : Nat) : Int) by omega, show ((d : Int) - 48) = ((d - 48 : Nat) : Int) by omega]
  exact this
/-- The bytes of a number. -/
def dgB (s : ByteArray) (j : Nat) : Int := ((nums s).getD (2 * j) 0 - 48) * 16 + ((nums s).getD (2 * j + 1) 0 - 48)
def dgs2 (s : ByteArray) : Nat → List Int
  | 0 => []
  | n + 1 => dgs2 s n ++ [dgB s n]
theorem dgs2_len (s : ByteArray) (n : Nat) : (dgs2 s n).length = n := by
  induction n with
  | zero => rfl
  | succ n ih => unfold dgs2; rw [List.length_append, ih]; rfl
def gdsB (x : Wag) : Int := if x.gen then x.gds + 16 else x.gds
/-- The bytes of a wagon. -/
def bytesW (x : Wag) : List Int := dgs2 x.num 6 ++ pair x.len ++ [x.axl] ++ pair x.mas ++ pair x.brk ++ [gdsB x, (x.dst.size : Int)] ++ nums x.dst
def AppBPost (base : Nat) (zs ys : List Int) (w : World) (e : Ending) (w' : World) : Prop :=
  ∃ v', e = .returned v' ∧ Own .u8 5 w' base v' (zs ++ ys) ∧ Below base w w'
abbrev boxW (w : World) (x : Wag) : World := w.alloc (.cells #[.string x.num, .int .i64 x.len, .int .i64 x.axl, .int .i64 x.mas, .int .i64 x.brk, .int .i64 x.gds, .bool x.gen, .string x.dst] 30)
/-- While bytes are appended: what is owned, what has turned, and the struct of the call's own in block b. -/
structure AS (base : Nat) (v : Value) (w0 : World) (b : Nat) (x : Wag) (zs : List Int) (w' : World) (v' : Value) : Prop where
  own : Own .u8 5 w' base v' zs
  app : App w0 v w' v'
  blk : RBlk WR w' b x
  ne : v.ownBlock ≠ some b
  lt : b < w0.heap.size
theorem AS.far {base b : Nat} {v v' : Value} {w0 w' : World} {x : Wag} {zs : List Int} (h : AS base v w0 b x zs w' v') : v'.ownBlock ≠ some b := fun e => by
  rcases h.app.o _ e with g | g
  · exact h.ne g
  · have := h.lt; omega
theorem AS.step {base b : Nat} {v v' v'' : Value} {w0 w' w'' : World} {x : Wag} {zs zs' : List Int} (h : AS base v w0 b x zs w' v') (k : App w' v' w'' v'') (o : Own .u8 5 w'' base v'' zs') : AS base v w0 b x zs' w'' v'' :=
  ⟨o, h.app.trans k, k.blk h.blk h.far, h.ne, h.lt⟩
theorem AS.alloc {base b : Nat} {v v' : Value} {w0 w' : World} {x : Wag} {zs : List Int} (h : AS base v w0 b x zs w' v') (o : Obj) : AS base v w0 b x zs (w'.alloc o) v' := ⟨h.own.alloc o, h.app.alloc o, h.blk.alloc o, h.ne, h.lt⟩
theorem AS.drewN {base b : Nat} {v v' : Value} {w0 w' : World} {x : Wag} {zs : List Int} (h : AS base v w0 b x zs w' v') (n : Nat) : AS base v w0 b x zs (w'.drewN n) v' := ⟨h.own.drewN n, h.app.drewN n, h.blk.drewN n, h.ne, h.lt⟩
theorem AS.size {base b : Nat} {v v' : Value} {w0 w' : World} {x : Wag} {zs : List Int} (h : AS base v w0 b x zs w' v') (hb : base ≤ w0.heap.size) : base ≤ w'.heap.size := Nat.le_trans hb h.app.g.size
theorem strCells_nums (s : ByteArray) : Lib.strCells s = (nums s).map (Value.int .u8) := by
  unfold Lib.strCells nums
  rw [List.map_map]; rfl
/-- append(v, s..), s a string. -/
theorem wpList_appS (W : World) {ops : Array Oper} {rest : List Oper} {o : Oper} {a : Act} {Q : Exit → Act → World → Prop} (hgd : o.guard = none) (s x : Operand)
    (ho : o.op = .call { callee := .builtin .append, args := #[s, x], argTypes := #[70, 9] }) (base : Nat) (v : Value) (zs : List Int) (hs : a.eval s = v) (O : Own .u8 5 W base v zs)
    (t : ByteArray) (hx : a.eval x = .string t) (hl : zs.length + t.size ≤ 1000000000) (hb : base ≤ W.heap.size)
    (h : ∀ v' w', Own .u8 5 w' base v' (zs ++ nums t) → Below base W w' → wpList Try.prog ops Q rest (a.put o.dst v') w') : wpList Try.prog ops Q (o :: rest) a W := by
  obtain ⟨i0, hi, hz0, hz1, hz2⟩ := info_parts infoByte
  refine Lib.wpList_append_own_string W hgd s x 70 9 ho base 5 i0 Try.underlying70 Try.underlying9 hi hz0 hz1 hz2 v zs.length (zs.map (Value.int .u8)) hs O t hx (by unfold maxLen; omega) (by omega) hb ?_
  intro v1 w1 hown hg _
  refine h v1 w1 (Own.app (by rw [← strCells_nums]; exact hown) rfl (nums_length t).symm) ?_
  exact ⟨hg.os, hg.tape, hg.output, hg.size, fun i hi => hg.block i (by omega) (fun e => by have := (own_block O e.symm).1; omega)⟩
end Go.Proofs.Ytgiodpepjajlmaa
