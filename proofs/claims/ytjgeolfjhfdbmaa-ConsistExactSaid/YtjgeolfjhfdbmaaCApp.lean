/-
  Stage 6: bytes are appended: two of a number, those of a wagon.
-/
import Derived.Test.YtjgeolfjhfdbmaaCChk
import Derived.Test.YtjgeolfjhfdbmaaCWag
import Derived.Test.YtjgeolfjhfdbmaaMkDigits
import Derived.Laws.Append
import Derived.StillTailTactics
import Derived.Deep.RegionLaw
import Derived.Lib.AppendStr
set_option linter.unusedSimpArgs false
set_option linter.unusedVariables false
namespace Go.Proofs.Ytjgeolfjhfdbmaa
open Go.RowKit

/-- From w to w' something was appended to v: nothing else has turned; what it lies in now was v's block, or is new. -/
structure App (w : World) (v : Value) (w' : World) (v' : Value) : Prop where
  g : w.grownBy w' v.ownBlock
  o : ∀ b, v'.ownBlock = some b → v.ownBlock = some b ∨ w.heap.size ≤ b
theorem App.refl (w : World) (v : Value) : App w v w v := ⟨⟨rfl, rfl, rfl, Nat.le_refl _, fun _ _ _ => rfl⟩, fun b h => Or.inl h⟩
theorem App.trans {a b c : World} {u v x : Value} (h : App a u b v) (k : App b v c x) : App a u c x := by
  refine ⟨⟨k.g.os.trans h.g.os, k.g.tape.trans h.g.tape, k.g.output.trans h.g.output, Nat.le_trans h.g.size k.g.size, fun i hi hne => ?_⟩, fun i hi => ?_⟩
  · refine (k.g.block i (Nat.lt_of_lt_of_le hi h.g.size) (fun e => ?_)).trans (h.g.block i hi hne)
    rcases h.o i e.symm with g | g
    · exact hne g.symm
    · omega
  · rcases k.o i hi with g | g
    · exact h.o i g
    · exact Or.inr (Nat.le_trans h.g.size g)
theorem App.alloc {w w' : World} {v v' : Value} (h : App w v w' v') (o : Obj) : App w v (w'.alloc o) v' := by
  refine h.trans ⟨World.grownBy_alloc w' o _, fun b h => Or.inl h⟩
theorem App.drewN {w w' : World} {v v' : Value} (h : App w v w' v') (n : Nat) : App w v (w'.drewN n) v' := ⟨⟨h.g.os, h.g.tape, h.g.output, h.g.size, h.g.block⟩, h.o⟩
theorem App.below {w w' : World} {v v' : Value} {base : Nat} (h : App w v w' v') (hb : ∀ b, v.ownBlock = some b → base ≤ b) (hs : base ≤ w.heap.size) : Below base w w' :=
  ⟨h.g.os, h.g.tape, h.g.output, h.g.size, fun i hi => h.g.block i (by omega) (fun e => by have := hb i e.symm; omega)⟩
theorem App.blk {α : Type} {R : Rec α} {w w' : World} {v v' : Value} {b : Nat} {x : α} (h : App w v w' v') (hx : RBlk R w b x) (hne : v.ownBlock ≠ some b) : RBlk R w' b x := hx.grown h.g hne

def AppPost (base : Nat) (v : Value) (zs ys : List Int) (w : World) (e : Ending) (w' : World) : Prop :=
  ∃ v', e = .returned v' ∧ Own .u8 5 w' base v' (zs ++ ys) ∧ App w v w' v'
/-- Two bytes of a number. -/
def pair (n : Int) : List Int := [n / 256, n % 256]
theorem own_le {k : IntKind} {e : TypeId} {w : World} {base : Nat} {v : Value} {zs : List Int} (h : Own k e w base v zs) (hb : base ≤ w.heap.size) : ∀ b, v.ownBlock = some b → base ≤ b := fun b hb => (own_block h hb).1

theorem le_alloc {base : Nat} {w : World} {o : Obj} (h : base ≤ w.heap.size) : base ≤ (w.alloc o).heap.size := by rw [World.size_alloc]; omega
/-- append(v, ys..) onto bytes of the call's own, ys just laid. -/
theorem wpList_app8g (W : World) {ops : Array Oper} {rest : List Oper} {o : Oper} {a : Act} {Q : Exit → Act → World → Prop} (hgd : o.guard = none) (s x : Operand)
    (ho : o.op = .call { callee := .builtin .append, args := #[s, x], argTypes := #[24, 24] }) (base : Nat) (v : Value) (zs : List Int) (hs : a.eval s = v) (O : Own .u8 5 W base v zs)
    (ys : List Int) (w0 : World) (hW : W = w0.alloc (.cells (ys.map (Value.int .u8)).toArray 5)) (z : Nat) (hz : w0.heap.size = z) (m c : Nat) (hm : ys.length = m) (h0 : 0 < m) (hx : a.eval x = .slice (some ⟨z, 0, none⟩) m c)
    (hl : zs.length + m ≤ 1000000000) (hb : base ≤ W.heap.size)
    (h : ∀ v' w', Own .u8 5 w' base v' (zs ++ ys) → App W v w' v' → wpList Try.prog ops Q rest (a.put o.dst v') w') : wpList Try.prog ops Q (o :: rest) a W := by
  obtain ⟨i0, hi, hz0, hz1, hz2⟩ := info_parts infoByte
  subst hm
  subst hz
  refine wpList_append_lies W hgd s x 24 ho base 5 i0 (.int .u8 0) 1 1 Try.underlying24 hi hz0 hz1 hz2 rfl (by decide) v zs.length (zs.map (Value.int .u8)) hs O ⟨w0.heap.size, 0, none⟩ ys.length c (ys.map (Value.int .u8)) hx (by rw [List.length_map, Nat.mul_one]) (by rw [hW]; exact news_int) one_cells h0 (by unfold maxLen; omega) (by omega) hb W.heap.size rfl ?_
  intro g cap w1 hown hg hat hlt
  refine h _ w1 (Own.app hown rfl rfl) ⟨hg, fun b hb => ?_⟩
  have e : g = b := by simpa [Value.ownBlock] using hb
  subst e
  rcases hat with h1 | h1
  · exact Or.inl h1
  · exact Or.inr (by omega)
theorem wpList_app8 (W : World) {ops : Array Oper} {rest : List Oper} {o : Oper} {a : Act} {Q : Exit → Act → World → Prop} (hgd : o.guard = none) (s x : Operand)
    (ho : o.op = .call { callee := .builtin .append, args := #[s, x], argTypes := #[24, 24] }) (base : Nat) (v : Value) (zs : List Int) (hs : a.eval s = v) (O : Own .u8 5 W base v zs)
    (ys : List Int) (w0 : World) (hW : W = w0.alloc (.cells (ys.map (Value.int .u8)).toArray 5)) (m c : Nat) (hm : ys.length = m) (h0 : 0 < m) (hx : a.eval x = .slice (some ⟨w0.heap.size, 0, none⟩) m c)
    (hl : zs.length + m ≤ 1000000000) (hb : base ≤ W.heap.size)
    (h : ∀ v' w', Own .u8 5 w' base v' (zs ++ ys) → App W v w' v' → wpList Try.prog ops Q rest (a.put o.dst v') w') : wpList Try.prog ops Q (o :: rest) a W :=
  wpList_app8g W hgd s x ho base v zs hs O ys w0 hW _ rfl m c hm h0 hx hl hb h

/-- The same at a step of a region that draws its order. -/
theorem step_app8 (W : World) {ops : Array Oper} {o : Oper} {a : Act} {K : Act → World → Prop} {Q : Exit → Act → World → Prop} {E : Prop} (hgd : o.guard = none) (s x : Operand)
    (ho : o.op = .call { callee := .builtin .append, args := #[s, x], argTypes := #[24, 24] }) (base : Nat) (v : Value) (zs : List Int) (hs : a.eval s = v) (O : Own .u8 5 W base v zs)
    (ys : List Int) (w0 : World) (hW : W = w0.alloc (.cells (ys.map (Value.int .u8)).toArray 5)) (m c : Nat) (hm : ys.length = m) (h0 : 0 < m) (hx : a.eval x = .slice (some ⟨w0.heap.size, 0, none⟩) m c)
    (hl : zs.length + m ≤ 1000000000) (hb : base ≤ W.heap.size)
    (h : ∀ v' w', Own .u8 5 w' base v' (zs ++ ys) → App W v w' v' → K (a.put o.dst v') w') :
    if Region.wanted o (yielded ops a.tmps) = true then Oper.wp Try.prog o a W K Q else E := by
  obtain ⟨i0, hi, hz0, hz1, hz2⟩ := info_parts infoByte
  subst hm
  refine step_append_lies W hgd s x 24 ho base 5 i0 (.int .u8 0) 1 1 Try.underlying24 hi hz0 hz1 hz2 rfl (by decide) v zs.length (zs.map (Value.int .u8)) hs O ⟨w0.heap.size, 0, none⟩ ys.length c (ys.map (Value.int .u8)) hx (by rw [List.length_map, Nat.mul_one]) (by rw [hW]; exact news_int) one_cells h0 (by unfold maxLen; omega) (by omega) hb W.heap.size rfl ?_
  intro g cap w1 hown hg hat hlt
  refine h _ w1 (Own.app hown rfl rfl) ⟨hg, fun b hb => ?_⟩
  have e : g = b := by simpa [Value.ownBlock] using hb
  subst e
  rcases hat with h1 | h1
  · exact Or.inl h1
  · exact Or.inr (by omega)

set_option maxHeartbeats 800000 in
theorem apair_any (n : Int) (zs : List Int) (v : Value) (base : Nat) (w : World) (O : Own .u8 5 w base v zs) (hb : base ≤ w.heap.size) (hz : zs.length ≤ 1000000) (h0 : 0 ≤ n) (h1 : n < 65536) :
    Calls Try.prog 33 #[v, .int .i64 n] w (AppPost base v zs (pair n) w) := by
  have OO := Lib.hid O
  have HB := Lib.hid hb
  have HZ := Lib.hid hz
  clear O hb hz
  go_enter Try.func33, Try.ntmps33
  go_wp2_with (first | (at_builtin; refine wpList_app8 _ rfl (.tmp 5) (.tmp 11) rfl base _ zs rfl (OO.out.alloc _) [n / 256, n % 256] w rfl 2 2 rfl (by decide) rfl (by have := HZ.out; omega) (by have := HB.out; simp only [World.size_alloc]; omega) ?_; intro v1 w1 O1 A1))
  go_ret
  exact ⟨v1, rfl, O1, ((App.refl w v).alloc _).trans A1⟩

theorem or_dig : ∀ a b : Fin 10, bits BinOp.or IntKind.u8 (((a : Nat) : Int) * 16) ((b : Nat) : Int) = ((a : Nat) : Int) * 16 + ((b : Nat) : Int) := by decide +kernel
theorem or_digs {c d : Nat} (h1 : 48 ≤ c) (h2 : c ≤ 57) (h3 : 48 ≤ d) (h4 : d ≤ 57) :
    bits BinOp.or IntKind.u8 (IntKind.u8.wrap (IntKind.u8.wrap ((c : Int) - 48) * 16)) (IntKind.u8.wrap ((d : Int) - 48)) = ((c : Int) - 48) * 16 + ((d : Int) - 48) := by
  rw [IntWalk.u8_in ((c : Int) - 48) (by omega), IntWalk.u8_in ((d : Int) - 48) (by omega), IntWalk.u8_in (((c : Int) - 48) * 16) (by omega)]
  have := or_dig ⟨c - 48, by omega⟩ ⟨d - 48, by omega⟩
  simp only at this
  rw [show ((c : Int) - 48) = ((c - 48 : Nat) : Int) by omega, show ((d : Int) - 48) = ((d - 48 : Nat) : Int) by omega]
  exact this
/-- The bytes of a number. -/
def dgB (s : ByteArray) (j : Nat) : Int := ((nums s).getD (2 * j) 0 - 48) * 16 + ((nums s).getD (2 * j + 1) 0 - 48)
def dgs2 (s : ByteArray) : Nat → List Int
  | 0 => []
  | n + 1 => dgs2 s n ++ [dgB s n]
theorem dgs2_len (s : ByteArray) (n : Nat) : (dgs2 s n).length = n := by
  induction n with
  | zero => rfl
  | succ n ih => unfold dgs2; rw [List.length_append, ih]; rfl
def gdsB (x : Wag) : Int := if x.gen then x.gds + 16 else x.gds
/-- The bytes of a wagon. -/
def bytesW (x : Wag) : List Int := dgs2 x.num 6 ++ pair x.len ++ [x.axl] ++ pair x.mas ++ pair x.brk ++ [gdsB x, (x.dst.size : Int)] ++ nums x.dst
def AppBPost (base : Nat) (zs ys : List Int) (w : World) (e : Ending) (w' : World) : Prop :=
  ∃ v', e = .returned v' ∧ Own .u8 5 w' base v' (zs ++ ys) ∧ Below base w w'
abbrev boxW (w : World) (x : Wag) : World := w.alloc (.cells #[.string x.num, .int .i64 x.len, .int .i64 x.axl, .int .i64 x.mas, .int .i64 x.brk, .int .i64 x.gds, .bool x.gen, .string x.dst] 30)
/-- While bytes are appended: what is owned, what has turned, and the struct of the call's own in block b. -/
structure AS (base : Nat) (v : Value) (w0 : World) (b : Nat) (x : Wag) (zs : List Int) (w' : World) (v' : Value) : Prop where
  own : Own .u8 5 w' base v' zs
  app : App w0 v w' v'
  blk : RBlk WR w' b x
  ne : v.ownBlock ≠ some b
  lt : b < w0.heap.size
theorem AS.far {base b : Nat} {v v' : Value} {w0 w' : World} {x : Wag} {zs : List Int} (h : AS base v w0 b x zs w' v') : v'.ownBlock ≠ some b := fun e => by
  rcases h.app.o _ e with g | g
  · exact h.ne g
  · have := h.lt; omega
theorem AS.step {base b : Nat} {v v' v'' : Value} {w0 w' w'' : World} {x : Wag} {zs zs' : List Int} (h : AS base v w0 b x zs w' v') (k : App w' v' w'' v'') (o : Own .u8 5 w'' base v'' zs') : AS base v w0 b x zs' w'' v'' :=
  ⟨o, h.app.trans k, k.blk h.blk h.far, h.ne, h.lt⟩
theorem AS.alloc {base b : Nat} {v v' : Value} {w0 w' : World} {x : Wag} {zs : List Int} (h : AS base v w0 b x zs w' v') (o : Obj) : AS base v w0 b x zs (w'.alloc o) v' := ⟨h.own.alloc o, h.app.alloc o, h.blk.alloc o, h.ne, h.lt⟩
theorem AS.drewN {base b : Nat} {v v' : Value} {w0 w' : World} {x : Wag} {zs : List Int} (h : AS base v w0 b x zs w' v') (n : Nat) : AS base v w0 b x zs (w'.drewN n) v' := ⟨h.own.drewN n, h.app.drewN n, h.blk.drewN n, h.ne, h.lt⟩
theorem AS.size {base b : Nat} {v v' : Value} {w0 w' : World} {x : Wag} {zs : List Int} (h : AS base v w0 b x zs w' v') (hb : base ≤ w0.heap.size) : base ≤ w'.heap.size := Nat.le_trans hb h.app.g.size
theorem strCells_nums (s : ByteArray) : Lib.strCells s = (nums s).map (Value.int .u8) := by
  unfold Lib.strCells nums
  rw [List.map_map]; rfl
/-- append(v, s..), s a string. -/
theorem wpList_appS (W : World) {ops : Array Oper} {rest : List Oper} {o : Oper} {a : Act} {Q : Exit → Act → World → Prop} (hgd : o.guard = none) (s x : Operand)
    (ho : o.op = .call { callee := .builtin .append, args := #[s, x], argTypes := #[24, 9] }) (base : Nat) (v : Value) (zs : List Int) (hs : a.eval s = v) (O : Own .u8 5 W base v zs)
    (t : ByteArray) (hx : a.eval x = .string t) (hl : zs.length + t.size ≤ 1000000000) (hb : base ≤ W.heap.size)
    (h : ∀ v' w', Own .u8 5 w' base v' (zs ++ nums t) → Below base W w' → wpList Try.prog ops Q rest (a.put o.dst v') w') : wpList Try.prog ops Q (o :: rest) a W := by
  obtain ⟨i0, hi, hz0, hz1, hz2⟩ := info_parts infoByte
  refine Lib.wpList_append_own_string W hgd s x 24 9 ho base 5 i0 Try.underlying24 Try.underlying9 hi hz0 hz1 hz2 v zs.length (zs.map (Value.int .u8)) hs O t hx (by unfold maxLen; omega) (by omega) hb ?_
  intro v1 w1 hown hg _
  refine h v1 w1 (Own.app (by rw [← strCells_nums]; exact hown) rfl (nums_length t).symm) ?_
  exact ⟨hg.os, hg.tape, hg.output, hg.size, fun i hi => hg.block i (by omega) (fun e => by have := (own_block O e.symm).1; omega)⟩
set_option maxHeartbeats 1600000 in
theorem awag_any (x : Wag) (hx : validW x = 0) (zs : List Int) (v : Value) (base : Nat) (w : World) (O : Own .u8 5 w base v zs) (hb : base ≤ w.heap.size) (hz : zs.length ≤ 100000) :
    Calls Try.prog 32 #[v, aggW x] w (AppBPost base zs (bytesW x) w) := by
  obtain ⟨p0, p1, ⟨r1, r2, r3, r4, r5, r6, r7, r8⟩, p3⟩ := validW_parts hx
  have p2 : 0 ≤ x.axl ∧ x.axl ≤ 6 := by rw [p1]; unfold axlK; split <;> (try split) <;> omega
  have p4 : 0 ≤ x.len := by have : 0 ≤ leastK (knd (x.num.data.toList.getD 4 48)) := (by unfold leastK; split <;> omega); omega
  have p5 : x.dst.size ≤ 12 := by
    unfold nameS at p3
    simp at p3
    omega
  obtain ⟨a1, a2⟩ := p2
  clear p1 r1
  obtain ⟨hs12, hdig, _⟩ := validR_size p0
  have HB := Lib.hid hb
  have HZ := Lib.hid hz
  have HD := Lib.hid hdig
  have HN12 := Lib.hid hs12
  have HO := Lib.hid O
  have S0 := Lib.hid (show AS base v (boxW w x) w.heap.size x zs (boxW w x) v from ⟨O.alloc _, App.refl _ _, newW w x 30 w.heap.size rfl, fun e => by have := (own_block O e).2; omega, by rw [World.size_alloc]; omega⟩)
  have HB1 := Lib.hid (show base ≤ (boxW w x).heap.size from le_alloc hb)
  obtain ⟨c0, c1, c2, c3, c4, c5, c6, c7, lt⟩ := WBlk.of S0.out.blk
  clear O hb hz hdig hx p0 p3
  go_enter Try.func32, Try.ntmps32
  go_wp2_with fail
  clear c0 c1 c2 c3 c4 c5 c6 c7 lt
  go_loopw [0, 5] (fun u i wr => ∃ k : Nat, k ≤ 6 ∧ i = .int .i64 ((2 * k : Nat) : Int) ∧ Hid (AS base v (boxW w x) w.heap.size x (zs ++ dgs2 x.num k) wr u)) (fun _ i _ => 12 - (intOf i).toNat)
  case atStart => exact ⟨0, by omega, rfl, Lib.hid (by show AS _ _ _ _ _ (zs ++ []) _ _; rw [List.append_nil]; exact S0.out)⟩
  case round =>
    clear S0
    obtain ⟨k, hk, rfl, S⟩ := hrel
    have HBW := Lib.hid (S.out.size HB1.out)
    obtain ⟨c0, c1, c2, c3, c4, c5, c6, c7, lt⟩ := WBlk.of S.out.blk
    by_cases hlt : k < 6
    · have hk1 : 2 * k < x.num.size := by omega
      have hk2 : 2 * k + 1 < x.num.size := by omega
      obtain ⟨d1, d2⟩ := dig_all HD.out (2 * k) hk1
      obtain ⟨e1, e2⟩ := dig_all HD.out (2 * k + 1) hk2
      have HS := Lib.hid (show dgB x.num k = ((x.num[2 * k].toNat : Int) - 48) * 16 + ((x.num[2 * k + 1].toNat : Int) - 48) by unfold dgB; rw [nums_getD _ _ hk1, nums_getD _ _ hk2])
      have q1 : (0 : Int) ≤ 2 * (k : Int) := by omega
      have q2 : (2 * (k : Int)).toNat = 2 * k := by omega
      have q3 : IntKind.i64.wrap (2 * (k : Int) + 1) = 2 * (k : Int) + 1 := IntWalk.i64_in _ (by omega)
      have q4 : (0 : Int) ≤ 2 * (k : Int) + 1 := by omega
      have q5 : 2 * (k : Int) + 1 < 12 := by omega
      have q6 : (2 * (k : Int) + 1).toNat = 2 * k + 1 := by omega
      have q11 : bits BinOp.or IntKind.u8 (IntKind.u8.wrap (IntKind.u8.wrap ((x.num[2 * k].toNat : Int) - 48) * 16)) (IntKind.u8.wrap ((x.num[2 * k + 1].toNat : Int) - 48)) = dgB x.num k := by rw [HS.out]; exact or_digs d1 d2 e1 e2
      have HL := Lib.hid (show (zs ++ dgs2 x.num k).length ≤ 100010 by rw [List.length_append, dgs2_len]; have := HZ.out; omega)
      go_upto_region 4 with fail
      go_region_law (refine step_app8 _ rfl (.tmp 14) (.tmp 28) rfl base _ (zs ++ dgs2 x.num k) rfl (S.out.own.alloc _) [dgB x.num k] wr.drew rfl 1 1 rfl (by decide) rfl (by have := HL.out; omega) (le_alloc (w := wr) HBW.out) ?_; intro v1 w1 O1 A1)
      all_goals
        go_wp2_with fail
        go_roundw
        case rel =>
          refine ⟨k + 1, by omega, by go_num, Lib.hid (((S.out.drewN 1).alloc _).step A1 ?_)⟩
          show Own _ _ _ _ _ (zs ++ (dgs2 x.num k ++ [dgB x.num k]))
          rw [← List.append_assoc]; exact O1
        case measure => simp [intOf]; omega
    · obtain rfl : k = 6 := by omega
      have HLZ := Lib.hid (show (zs ++ dgs2 x.num 6).length ≤ 100010 by rw [List.length_append, dgs2_len]; have := HZ.out; omega)
      obtain ⟨z1, hz1⟩ : ∃ z, z = zs ++ dgs2 x.num 6 := ⟨_, rfl⟩
      have HZ1 := Lib.hid hz1
      rw [← hz1] at S HLZ
      clear hlt hk hz1
      have sz := HN12.out
      clear hs12
      go_wp2_with fail
      clear c0 c1 c2 c3 c4 c5 c6 c7 lt
      refine (apair_any x.len z1 u0 base _ S.out.own (S.out.size HB1.out) (by have := HLZ.out; omega) p4 (by omega)).mono ?_
      rintro e w1 ⟨v1, rfl, O1, A1⟩
      have S1 := Lib.hid (S.out.step A1 O1)
      obtain ⟨c0, c1, c2, c3, c4, c5, c6, c7, lt⟩ := WBlk.of S1.out.blk
      clear S O1 A1
      have b1 : base ≤ w1.heap.size := S1.out.size HB1.out
      go_wp2_with (first | (at_builtin; refine wpList_app8 _ rfl (.tmp 34) (.tmp 38) rfl base _ (z1 ++ pair x.len) rfl (S1.out.own.alloc _) [x.axl] w1 rfl 1 1 rfl (by decide) rfl (by have := HLZ.out; rw [List.length_append]; show z1.length + 2 + 1 ≤ _; omega) (le_alloc b1) ?_; intro v2 w2 O2 A2; have S2 := Lib.hid ((S1.out.alloc (.cells #[.int .u8 x.axl] 5)).step A2 O2); obtain ⟨d0, d1, d2, d3, d4, d5, d6, d7, _⟩ := WBlk.of S2.out.blk; clear c0 c1 c2 c3 c4 c5 c6 c7))
      clear d0 d1 d2 d3 d4 d5 d6 d7 S1 O2 A2
      have b2 : base ≤ w2.heap.size := S2.out.size HB1.out
      have l2 : (z1 ++ pair x.len ++ [x.axl]).length ≤ 100013 := by have := HLZ.out; rw [List.length_append, List.length_append]; show z1.length + 2 + 1 ≤ _; omega
      obtain ⟨z2, hz2⟩ : ∃ z, z = z1 ++ pair x.len ++ [x.axl] := ⟨_, rfl⟩
      have HZ2 := Lib.hid hz2
      rw [← hz2] at S2 l2
      clear hz2
      refine (apair_any x.mas z2 v2 base _ S2.out.own b2 (by omega) (by omega) (by omega)).mono ?_
      rintro e w3 ⟨v3, rfl, O3, A3⟩
      have S3 := Lib.hid (S2.out.step A3 O3)
      obtain ⟨c0, c1, c2, c3, c4, c5, c6, c7, lt⟩ := WBlk.of S3.out.blk
      have b3 : base ≤ w3.heap.size := S3.out.size HB1.out
      have l3 : (z2 ++ pair x.mas).length ≤ 100015 := by rw [List.length_append]; show z2.length + 2 ≤ _; omega
      clear S2 O3 A3 b2
      go_wp2_with fail
      clear c0 c1 c2 c3 c4 c5 c6 c7 lt
      refine (apair_any x.brk (z2 ++ pair x.mas) v3 base _ S3.out.own b3 (by omega) r5 (by omega)).mono ?_
      rintro e w4 ⟨v4, rfl, O4, A4⟩
      have S4 := Lib.hid (S3.out.step A4 O4)
      obtain ⟨c0, c1, c2, c3, c4, c5, c6, c7, lt⟩ := WBlk.of S4.out.blk
      have b4 : base ≤ w4.heap.size := S4.out.size HB1.out
      have l4 : (z2 ++ pair x.mas ++ pair x.brk).length ≤ 100017 := by rw [List.length_append]; show (z2 ++ pair x.mas).length + 2 ≤ _; omega
      clear S3 O4 A4 b3 l3
      obtain ⟨z4, hz4⟩ : ∃ z, z = z2 ++ pair x.mas ++ pair x.brk := ⟨_, rfl⟩
      have HZ4 := Lib.hid hz4
      rw [← hz4] at S4 l4
      have HGB := Lib.hid (show gdsB x = if x.gen then x.gds + 16 else x.gds from rfl)
      have HP5 := Lib.hid p5
      have HE := Lib.hid (show z4 ++ [gdsB x, (x.dst.size : Int)] ++ nums x.dst = zs ++ bytesW x by rw [hz4, HZ2.out, HZ1.out]; unfold bytesW; simp only [List.append_assoc])
      clear hz4
      cases hgen : x.gen with
      | true =>
        have HG := Lib.hid (show gdsB x = x.gds + 16 by rw [HGB.out, hgen]; rfl)
        rw [hgen] at c6
        clear hgen
        go_wp2_with (first
          | (at_builtin; refine wpList_app8 _ rfl (.tmp 54) (.tmp 61) rfl base _ z4 rfl (S4.out.own.alloc _) [x.gds + 16, (x.dst.size : Int)] w4 rfl 2 2 rfl (by decide) rfl (by omega) (le_alloc b4) ?_; intro v5 w5 O5 A5; have S5 := Lib.hid ((S4.out.alloc (.cells #[.int .u8 (x.gds + 16), .int .u8 (x.dst.size : Int)] 5)).step A5 O5); obtain ⟨d0, d1, d2, d3, d4, d5, d6, d7, _⟩ := WBlk.of S5.out.blk; clear c0 c1 c2 c3 c4 c5 c6 c7)
          | (at_builtin; refine wpList_appS _ rfl (.tmp 63) (.tmp 65) rfl base _ (z4 ++ [x.gds + 16, (x.dst.size : Int)]) rfl S5.out.own x.dst rfl (by rw [List.length_append]; show z4.length + 2 + _ ≤ _; omega) (S5.out.size HB1.out) ?_; intro v6 w6 O6 B6))
        go_ret
        refine ⟨v6, rfl, by rw [← HE.out, HG.out]; exact O6, ?_⟩
        exact (((Below.refl base w).alloc HB.out _).trans (S5.out.app.below (fun b hb => (own_block HO.out hb).1) HB1.out)).trans B6
      | false =>
        have HG := Lib.hid (show gdsB x = x.gds by rw [HGB.out, hgen]; rfl)
        rw [hgen] at c6
        clear hgen
        go_wp2_with (first
          | (at_builtin; refine wpList_app8 _ rfl (.tmp 54) (.tmp 61) rfl base _ z4 rfl (S4.out.own.alloc _) [x.gds, (x.dst.size : Int)] w4 rfl 2 2 rfl (by decide) rfl (by omega) (le_alloc b4) ?_; intro v5 w5 O5 A5; have S5 := Lib.hid ((S4.out.alloc (.cells #[.int .u8 (x.gds), .int .u8 (x.dst.size : Int)] 5)).step A5 O5); obtain ⟨d0, d1, d2, d3, d4, d5, d6, d7, _⟩ := WBlk.of S5.out.blk; clear c0 c1 c2 c3 c4 c5 c6 c7)
          | (at_builtin; refine wpList_appS _ rfl (.tmp 63) (.tmp 65) rfl base _ (z4 ++ [x.gds, (x.dst.size : Int)]) rfl S5.out.own x.dst rfl (by rw [List.length_append]; show z4.length + 2 + _ ≤ _; omega) (S5.out.size HB1.out) ?_; intro v6 w6 O6 B6))
        go_ret
        refine ⟨v6, rfl, by rw [← HE.out, HG.out]; exact O6, ?_⟩
        exact (((Below.refl base w).alloc HB.out _).trans (S5.out.app.below (fun b hb => (own_block HO.out hb).1) HB1.out)).trans B6
end Go.Proofs.Ytjgeolfjhfdbmaa
