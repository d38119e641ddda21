/-
  Base, Num, Maker, Loc, Byts, MkDigits, Reg, YRound, Flat, Rec, JIt, JPlain, JVal, KMath, KBits, KNext, KProg, KSpec, KRef, KRef2, KStep, YPlain, YIter, Src, Same, WApp, JRel, JBox, RecR, JSaneA, MkPick, JMk, JJob, JRelF, JLaw, KFns, YFns, YSol, YSolve: joined.
-/
import Derived.Test.YtimkmieohkefiaaGreatRows
import Derived.WalkKit
import Derived.WalkSpells
import Derived.WalkLawsBesides
import Derived.Deep.QuietTactic
import Derived.BigQuiet
import Derived.Lib.Hide
import Derived.Handy
import Derived.Deep.RegionHeld3
import Derived.Deep.DeepCutAuto
import Derived.BigRegion
import Derived.Laws.OwnMore
import Derived.Deep.AppendLies
import Derived.Laws.MakeOwn
import Derived.Laws.BytesArg
import Derived.OrdersHeld
import Derived.Sort.QuietIn
import Derived.Sort.QuietTacIn
import Derived.RangeFuncNested
import Derived.RangeFuncBound
import Derived.RangeFuncCalls
import Derived.RangeFuncLeaves
import Derived.Shelf.Abstract
import Derived.OwnWalkIn
import Derived.TacticsInMore
import Derived.LoopNIn
import Derived.LoopIn
import Derived.Laws.BitsAllLaws
import Derived.Laws.BitsLemmas
import Derived.Laws.AppendOwnNone
import Derived.Deep.RegionLaw
import Derived.Sort.CutIn
set_option linter.unusedSimpArgs false
set_option linter.unusedVariables false
namespace Go.Proofs.YtimkmieohkefiaaGreat
open Go.RowKit

theorem ret_int {k : IntKind} {a b : Int} (h : a = b) : Ending.returned (.int k a) = .returned (.int k b) := by rw [h]
theorem ret_bool {a b : Bool} (h : a = b) : Ending.returned (.bool a) = .returned (.bool b) := by rw [h]
/-- A number and an error's number; a string and an error's number. -/
abbrev R2 (t : Int × Int) : Value := .tuple #[.int .i64 t.1, .int .i64 t.2]
abbrev RS (t : ByteArray × Int) : Value := .tuple #[.string t.1, .int .i64 t.2]
theorem ret_r2 {a b : Int} {t : Int × Int} (h : t = (a, b)) : Ending.returned (.tuple #[.int .i64 a, .int .i64 b]) = .returned (R2 t) := by rw [h]
/-- What a walk is told of a slice of integers that came in: it is nil, or it leads to a row of cells. -/
def IsRow (k : IntKind) (w : World) (a : Option Addr) (len cap : Nat) (zs : List Int) : Prop :=
  (a = none ∧ len = 0 ∧ cap = 0 ∧ zs = []) ∨
  ∃ x, a = some x ∧ len ≤ cap ∧ cap ≤ maxLen ∧ zs.length = cap ∧ (∀ i, i < zs.length → w.cell? (x.add i) = some (.int k (zs.getD i 0))) ∧ ∀ n ∈ zs, (Lit.int k n).wf = true

theorem bdn {B : Nat} {w w1 : World} {n : Nat} (h : Below B w w1) : Below B w (w1.drewN n) := ⟨h.os, h.tape, h.output, h.size, h.block⟩
theorem below1 {w w1 : World} {o1 : Obj} (hb : Below (w.alloc o1).heap.size (w.alloc o1) w1) : Below w.heap.size w w1 :=
  ((Below.refl _ _).alloc (Nat.le_refl _) o1).trans (hb.mono (by simp))
theorem cell_new (W : World) (cs : Array Value) (T : TypeId) (i : Nat) : (W.alloc (.cells cs T)).cell? ⟨W.heap.size, i, none⟩ = cs[i]? := by
  have e : (W.alloc (.cells cs T)).heap[W.heap.size]? = some (.cells cs T) := by
    show (W.heap.push _)[W.heap.size]? = _
    rw [Array.getElem?_push, if_pos rfl]
  unfold World.cell?
  rw [e]
  rfl

/-- The cells of a list of numbers that the call has just made. -/
theorem new_pick (W : World) (T : TypeId) (P : Int → Prop) (zs : List Int) (h : ∀ z ∈ zs, P z) (b : Nat) (hb : b = W.heap.size) (i : Nat) (hi : i < zs.length) :
    ∃ z : Int, (W.alloc (.cells (zs.map (Value.int .i64)).toArray T)).cell? ⟨b, i, none⟩ = some (.int .i64 z) ∧ P z := by
  subst hb
  refine ⟨zs[i], ?_, h _ (List.getElem_mem hi)⟩
  rw [cell_new]
  simp [hi]

theorem lt_of_cell {w : World} {a : Addr} {v : Value} (h : w.cell? a = some v) : a.block < w.heap.size := by
  by_cases g : a.block < w.heap.size
  · exact g
  · have e : w.heap[a.block]? = none := by simp; omega
    unfold World.cell? at h
    rw [e] at h
    cases h

/-- A remainder, cut towards nought. -/
theorem tmod_bd (n d : Int) (h : 0 < d) : -d < n.tmod d ∧ n.tmod d < d := by
  have hm : (n.tmod d).natAbs < d.natAbs := by
    rw [Int.natAbs_tmod]; exact Nat.mod_lt _ (by omega)
  omega

/-- The lesser and the greater of two. -/
def min2 (x y : Int) : Int := if y < x then y else x
def max2 (x y : Int) : Int := if x < y then y else x
theorem run_max2 (P : Program) (w : World) (ts : Array TypeId) (t : TypeId) (x y : Int) : (Builtin.max_ ts t #[.int .i64 x, .int .i64 y]).run P w = .ok (.int .i64 (max2 x y)) w := by
  simp [Builtin.max_, Builtin.max2, max2]

end Go.Proofs.YtimkmieohkefiaaGreat

namespace Go.Proofs.YtimkmieohkefiaaGreat
open Go.RowKit

/-- The slice from A on reads as the numbers zs, and lies below block B. -/
def Row (k : IntKind) (w : World) (B : Nat) (A : Option Addr) (zs : List Int) : Prop :=
  ∀ j, j < zs.length → ∃ ad : Addr, A = some ad ∧ ad.block < B ∧ w.cell? (ad.add j) = some (.int k (zs.getD j 0))
theorem add_block (a : Addr) (n : Nat) : (a.add n).block = a.block := by unfold Addr.add; split <;> rfl
theorem add_own (g j : Nat) : (⟨g, 0, none⟩ : Addr).add j = ⟨g, j, none⟩ := by unfold Addr.add; split <;> simp_all
theorem Row.keep {k : IntKind} {w w' : World} {B B' : Nat} {A : Option Addr} {zs : List Int} (h : Row k w B A zs) (hc : ∀ p : Addr, p.block < B → w'.cell? p = w.cell? p) (hB : B ≤ B') : Row k w' B' A zs := fun j hj => by
  obtain ⟨ad, e, hb, hv⟩ := h j hj
  exact ⟨ad, e, Nat.lt_of_lt_of_le hb hB, (hc _ (by rw [add_block]; exact hb)).trans hv⟩
theorem Row.below {k : IntKind} {w w' : World} {A : Option Addr} {zs : List Int} (h : Row k w w.heap.size A zs) (b : Below w.heap.size w w') : Row k w' w'.heap.size A zs := h.keep (fun _ hp => b.cell hp) b.size
theorem Row.under {k : IntKind} {w w' : World} {B : Nat} {A : Option Addr} {zs : List Int} (h : Row k w B A zs) (b : Below B w w') : Row k w' B A zs := h.keep (fun _ hp => b.cell hp) (Nat.le_refl _)
theorem Row.more {k : IntKind} {w : World} {B B' : Nat} {A : Option Addr} {zs : List Int} (h : Row k w B A zs) (hB : B ≤ B') : Row k w B' A zs := h.keep (fun _ _ => rfl) hB
theorem Row.drewN {k : IntKind} {w : World} {B : Nat} {A : Option Addr} {zs : List Int} (h : Row k w B A zs) (n : Nat) : Row k (w.drewN n) B A zs := h.keep (fun _ _ => rfl) (Nat.le_refl _)
theorem getD_take (zs : List Int) (n j : Nat) (h : j < n) : (zs.take n).getD j 0 = zs.getD j 0 := by
  rw [List.getD_eq_getElem?_getD, List.getElem?_take, if_pos h, List.getD_eq_getElem?_getD]
theorem Row.take {k : IntKind} {w : World} {B : Nat} {A : Option Addr} {zs : List Int} (h : Row k w B A zs) (n : Nat) : Row k w B A (zs.take n) := fun j hj => by
  rw [List.length_take] at hj
  rw [getD_take _ _ _ (by omega)]
  exact h j (by omega)
theorem Row.nil {k : IntKind} {w : World} {B : Nat} {A : Option Addr} : Row k w B A [] := fun j hj => absurd hj (by simp)
/-- A slice that came in. -/
theorem IsRow.row {k : IntKind} {w : World} {a : Option Addr} {len cap : Nat} {zs : List Int} (h : IsRow k w a len cap zs) :
    ∃ l : List Int, len = l.length ∧ Row k w w.heap.size a l ∧ l.length ≤ maxLen ∧ ∀ n ∈ l, (Lit.int k n).wf = true := by
  rcases h with ⟨rfl, rfl, rfl, rfl⟩ | ⟨x, rfl, h1, h2, h3, h4, h5⟩
  · exact ⟨[], rfl, Row.nil, by decide, by simp⟩
  · refine ⟨zs.take len, by rw [List.length_take]; omega, Row.take (fun j hj => ⟨x, rfl, ?_, h4 j hj⟩) _, by rw [List.length_take]; omega, fun n hn => h5 n (List.mem_of_mem_take hn)⟩
    have := lt_of_cell (h4 j hj)
    rwa [add_block] at this

/-- The slice v is nil, or lies in a block of the call's own from base on; it reads as the numbers zs. -/
def Own (k : IntKind) (e : TypeId) (w : World) (base : Nat) (v : Value) (zs : List Int) : Prop := w.ownsRow base e 1 v zs.length (zs.map (Value.int k))
theorem Own.nil {k : IntKind} {e : TypeId} {w : World} {base : Nat} : Own k e w base (.slice none 0 0) [] := ⟨rfl, Or.inl ⟨rfl, rfl⟩⟩
theorem Own.drewN {k : IntKind} {e : TypeId} {w : World} {base : Nat} {v : Value} {zs : List Int} (h : Own k e w base v zs) (n : Nat) : Own k e (w.drewN n) base v zs := h
theorem Own.alloc {k : IntKind} {e : TypeId} {w : World} {base : Nat} {v : Value} {zs : List Int} (h : Own k e w base v zs) (o : Obj) : Own k e (w.alloc o) base v zs := World.ownsRow.alloc h o
theorem Own.base {k : IntKind} {e : TypeId} {w : World} {base base' : Nat} {v : Value} {zs : List Int} (h : Own k e w base v zs) (hb : base' ≤ base) : Own k e w base' v zs := by
  refine ⟨h.1, ?_⟩
  rcases h.2 with g | ⟨g, cap, cur, e1, e2, e3⟩
  · exact Or.inl g
  · exact Or.inr ⟨g, cap, cur, e1, Nat.le_trans hb e2, e3⟩
theorem Own.below {k : IntKind} {e : TypeId} {w w' : World} {base : Nat} {v : Value} {zs : List Int} (h : Own k e w base v zs) (b : Below w.heap.size w w') : Own k e w' base v zs := by
  refine ⟨h.1, ?_⟩
  rcases h.2 with g | ⟨g, cap, cur, e1, e2, e3, e4⟩
  · exact Or.inl g
  · exact Or.inr ⟨g, cap, cur, e1, e2, (b.block g (Array.getElem?_eq_some_iff.1 e3).1).trans e3, e4⟩
/-- What it looks like. -/
theorem Own.slice {k : IntKind} {e : TypeId} {w : World} {base : Nat} {v : Value} {zs : List Int} (h : Own k e w base v zs) :
    ∃ A c, v = .slice A zs.length c ∧ Row k w w.heap.size A zs ∧ zs.length ≤ c ∧ zs.length ≤ maxLen ∧ (0 < zs.length → ∃ g, A = some ⟨g, 0, none⟩ ∧ base ≤ g ∧ g < w.heap.size) := by
  rcases h.2 with ⟨rfl, hn⟩ | ⟨g, cap, cur, rfl, e2, e3, e4, e5, e6, e7⟩
  · have : zs = [] := List.length_eq_zero_iff.1 hn
    subst this
    exact ⟨none, 0, rfl, Row.nil, Nat.le_refl _, by decide, fun h => absurd h (by simp)⟩
  · have hg : g < w.heap.size := (Array.getElem?_eq_some_iff.1 e3).1
    refine ⟨_, cap, rfl, fun j hj => ⟨_, rfl, hg, ?_⟩, e4, by omega, fun _ => ⟨g, rfl, e2, hg⟩⟩
    rw [add_own]
    have := World.ownsRow.cellAt h j (by omega)
    rw [this]
    simp [hj]
theorem Own.frozen {k : IntKind} {e : TypeId} {w : World} {base g n cap : Nat} {zs : List Int} (h : Own k e w base (.slice (some ⟨g, 0, none⟩) n cap) zs) (hn : n = zs.length) (j : Nat) : w.frozen? ⟨g, j, none⟩ = false := by
  subst hn; exact World.ownsRow.frozenAt h j
theorem Own.cell {k : IntKind} {e : TypeId} {w : World} {base g n cap : Nat} {zs : List Int} (h : Own k e w base (.slice (some ⟨g, 0, none⟩) n cap) zs) (hn : n = zs.length) (j : Nat) (hj : j < zs.length) : w.cell? ⟨g, j, none⟩ = some (.int k (zs.getD j 0)) := by
  subst hn
  rw [World.ownsRow.cellAt h j (by omega)]
  simp [hj]
theorem Own.store {k : IntKind} {e : TypeId} {w : World} {base g n cap : Nat} {zs : List Int} (h : Own k e w base (.slice (some ⟨g, 0, none⟩) n cap) zs) (hn : n = zs.length) (j : Nat) (x : Int) :
    Own k e (w.setCell ⟨g, j, none⟩ (.int k x)) base (.slice (some ⟨g, 0, none⟩) n cap) (zs.set j x) := by
  subst hn
  have := (World.ownsRow.stored h j (.int k x)).1
  unfold Own
  rwa [List.length_set, List.map_set]
theorem Own.kept {k : IntKind} {e : TypeId} {w w' : World} {base : Nat} {v : Value} {zs : List Int} {row : Option Nat} (h : Own k e w base v zs) (hg : w.grownBy w' row) (hne : v.ownBlock = none ∨ v.ownBlock ≠ row) : Own k e w' base v zs := World.ownsRow.kept h hg hne
/-- A slice of the call's own that has grown. -/
theorem Own.app {k : IntKind} {e : TypeId} {w : World} {base n m : Nat} {v : Value} {zs ys : List Int} (h : w.ownsRow base e 1 v (n + m) (zs.map (Value.int k) ++ ys.map (Value.int k))) (hn : n = zs.length) (hm : m = ys.length) : Own k e w base v (zs ++ ys) := by
  subst hn; subst hm
  unfold Own
  rwa [List.length_append, List.map_append]
theorem news_int {k : IntKind} {W : World} {T : TypeId} {ys : List Int} : ∀ j u, (ys.map (Value.int k))[j]? = some u → (W.alloc (.cells (ys.map (Value.int k)).toArray T)).cell? ((⟨W.heap.size, 0, none⟩ : Addr).add j) = some u := fun j u hj => by
  rw [add_own, cell_new]; simpa using hj
theorem one_cells {k : IntKind} {ys : List Int} : ∀ u ∈ ys.map (Value.int k), u.oneCell' = true := fun u hu => by
  obtain ⟨x, _, rfl⟩ := List.mem_map.1 hu; rfl
theorem own_block {k : IntKind} {e : TypeId} {w : World} {base : Nat} {v : Value} {zs : List Int} (h : Own k e w base v zs) {g : Nat} (hg : v.ownBlock = some g) : base ≤ g ∧ g < w.heap.size := by
  rcases h.2 with ⟨rfl, _⟩ | ⟨g', cap, cur, rfl, e2, e3, _⟩
  · simp [Value.ownBlock] at hg
  · simp [Value.ownBlock] at hg
    subst hg
    exact ⟨e2, (Array.getElem?_eq_some_iff.1 e3).1⟩
end Go.Proofs.YtimkmieohkefiaaGreat

namespace Go.Proofs.YtimkmieohkefiaaGreat
open Go.RowKit

/-- Of the blocks that were there, none has turned but block m. -/
structure Moves (m : Nat) (w w' : World) : Prop where
  os : w'.os = w.os
  tape : w'.tape = w.tape
  output : w'.output = w.output
  size : w.heap.size ≤ w'.heap.size
  block : ∀ k, k < w.heap.size → k ≠ m → w'.heap[k]? = w.heap[k]?

theorem Moves.refl (m : Nat) (w : World) : Moves m w w := ⟨rfl, rfl, rfl, Nat.le_refl _, fun _ _ _ => rfl⟩
theorem Moves.trans {m : Nat} {a b c : World} (h : Moves m a b) (k : Moves m b c) : Moves m a c :=
  ⟨k.os.trans h.os, k.tape.trans h.tape, k.output.trans h.output, Nat.le_trans h.size k.size, fun i hi hm => (k.block i (Nat.lt_of_lt_of_le hi h.size) hm).trans (h.block i hi hm)⟩
theorem Moves.of_below {m : Nat} {a b : World} (h : Below a.heap.size a b) : Moves m a b :=
  ⟨h.os, h.tape, h.output, h.size, fun k hk _ => h.block k hk⟩
theorem Moves.drewN {m : Nat} {a b : World} {n : Nat} (h : Moves m a b) : Moves m a (b.drewN n) := ⟨h.os, h.tape, h.output, h.size, h.block⟩
theorem Moves.alloc {m : Nat} {a b : World} (h : Moves m a b) (o : Obj) : Moves m a (b.alloc o) :=
  h.trans ⟨rfl, rfl, rfl, by simp, fun k hk _ => Below.heap_alloc _ _ _ (by omega)⟩
/-- A store into block m, or into one that came later. -/
theorem Moves.setCell {m : Nat} {a b : World} (h : Moves m a b) {p : Addr} (hp : p.block = m ∨ a.heap.size ≤ p.block) (u : Value) : Moves m a (b.setCell p u) :=
  ⟨h.os, h.tape, h.output, by rw [World.size_setCell]; exact h.size, fun k hk hm => by
    rw [Below.heap_setCell _ _ _ _ (by omega)]; exact h.block k hk hm⟩
theorem Moves.cell {m : Nat} {w w' : World} (h : Moves m w w') {p : Addr} (hp : p.block < w.heap.size) (hm : p.block ≠ m) : w'.cell? p = w.cell? p := World.cell?_of_block (w := w) (h.block p.block hp hm)
theorem Moves.frozen {m : Nat} {w w' : World} (h : Moves m w w') {p : Addr} (hp : p.block < w.heap.size) (hm : p.block ≠ m) : w'.frozen? p = w.frozen? p := World.frozen?_of_block (w := w) (h.block p.block hp hm)
/-- Where m is one of the call's own blocks, old memory has not turned. -/
theorem Moves.below {m B : Nat} {a b c : World} (h : Below B a b) (k : Moves m b c) (hm : B ≤ m) (hB : B ≤ b.heap.size) : Below B a c :=
  h.trans ⟨k.os, k.tape, k.output, k.size, fun i hi => k.block i (by omega) (by omega)⟩

/-- Block m is a maker that has made at most N numbers. -/
structure IsMk (w : World) (m : Nat) (N : Nat) : Prop where
  lt : m < w.heap.size
  cnt : ∃ n : Nat, n ≤ N ∧ w.cell? ⟨m, 1, none⟩ = some (.int .i64 n)
  thaw : w.frozen? ⟨m, 1, none⟩ = false
  list : ∃ (a : Option Addr) (len cap : Nat), w.cell? ⟨m, 0, none⟩ = some (.slice a len cap) ∧ len ≤ maxLen ∧
    (len = 0 ∨ ∃ b off, a = some ⟨b, off, none⟩ ∧ b < m ∧ ∀ i, i < len → ∃ z : Int, w.cell? ⟨b, off + i, none⟩ = some (.int .i64 z) ∧ -9223372036854775808 ≤ z ∧ z ≤ 9223372036854775807)

/-- A maker stays one while the blocks up to it stay. -/
theorem IsMk.stays {w w' : World} {m N : Nat} (h : IsMk w m N) (k : Below (m + 1) w w') : IsMk w' m N := by
  obtain ⟨h1, ⟨n, hn, hc⟩, h3, a, len, cap, h4, h5, h6⟩ := h
  have hs := k.size
  refine ⟨by omega, ⟨n, hn, by rw [k.cell (p := ⟨m, 1, none⟩) (Nat.lt_succ_self m)]; exact hc⟩, by rw [k.frozen (p := ⟨m, 1, none⟩) (Nat.lt_succ_self m)]; exact h3, a, len, cap, by rw [k.cell (p := ⟨m, 0, none⟩) (Nat.lt_succ_self m)]; exact h4, h5, ?_⟩
  rcases h6 with h6 | ⟨b, off, e, hb, h6⟩
  · exact Or.inl h6
  · refine Or.inr ⟨b, off, e, hb, fun i hi => ?_⟩
    obtain ⟨z, hz, hz2⟩ := h6 i hi
    exact ⟨z, by rw [k.cell (p := ⟨b, off + i, none⟩) (Nat.lt_succ_of_lt hb)]; exact hz, hz2⟩
theorem IsMk.stays' {w w' : World} {m N : Nat} (h : IsMk w m N) (k : Below w.heap.size w w') : IsMk w' m N := h.stays (k.mono h.lt)
theorem IsMk.alloc {w : World} {m N : Nat} (h : IsMk w m N) (o : Obj) : IsMk (w.alloc o) m N := h.stays' ((Below.refl _ _).alloc (Nat.le_refl _) _)
theorem IsMk.drewN {w : World} {m N n : Nat} (h : IsMk w m N) : IsMk (w.drewN n) m N := h.stays' ⟨rfl, rfl, rfl, Nat.le_refl _, fun _ _ => rfl⟩
/-- A store into a younger block. -/
theorem IsMk.setCell {w : World} {m N : Nat} (h : IsMk w m N) {p : Addr} (hp : m < p.block) (u : Value) : IsMk (w.setCell p u) m N := h.stays ((Below.refl _ _).setCell hp u)

theorem IsMk.more {w : World} {m N M : Nat} (h : IsMk w m N) (k : N ≤ M) : IsMk w m M := by
  obtain ⟨h1, ⟨n, hn, hc⟩, h3, h4⟩ := h
  exact ⟨h1, ⟨n, by omega, hc⟩, h3, h4⟩

/-- The counter goes on by one. -/
theorem IsMk.step {w : World} {m N n : Nat} {j : Nat} (h : IsMk w m N) (hn : n ≤ N) (hc : w.cell? ⟨m, 1, none⟩ = some (.int .i64 n)) : IsMk ((w.drewN j).setCell ⟨m, 1, none⟩ (.int .i64 (n + 1))) m (N + 1) := by
  obtain ⟨h1, _, h3, a, len, cap, h4, h5, h6⟩ := h
  have hd : ∀ p, (w.drewN j).cell? p = w.cell? p := fun p => World.cell?_of_block (w := w) rfl
  have hz : ((w.drewN j).setCell ⟨m, 1, none⟩ (.int .i64 (n + 1))).heap.size = w.heap.size := by rw [World.size_setCell]; rfl
  refine ⟨by rw [hz]; exact h1, ⟨n + 1, by omega, World.cell?_setCell_same _ _ _ ((hd _).trans hc)⟩, by rw [World.frozen?_setCell]; exact h3, a, len, cap, ?_, h5, ?_⟩
  · rw [World.cell?_setCell_other _ _ _ _ (by simp), hd]; exact h4
  · rcases h6 with h6 | ⟨b, off, e, hb, h6⟩
    · exact Or.inl h6
    · refine Or.inr ⟨b, off, e, hb, fun i hi => ?_⟩
      obtain ⟨z, hz, hz2⟩ := h6 i hi
      exact ⟨z, by rw [World.cell?_setCell_other _ _ _ _ (fun e => by have := congrArg Addr.block e; simp at this; omega), hd]; exact hz, hz2⟩

/-- What Next and its like leave. -/
def NextPost (m N : Nat) (lo hi : Int) (w : World) (e : Ending) (w' : World) : Prop := ∃ v : Int, e = .returned (.int .i64 v) ∧ lo ≤ v ∧ v ≤ hi ∧ IsMk w' m N ∧ Moves m w w'

theorem NextPost.mk' {m N : Nat} {lo hi : Int} {w w' : World} {e : Ending} (v : Int) (h1 : e = .returned (.int .i64 v)) (h2 : lo ≤ v) (h3 : v ≤ hi) (h4 : IsMk w' m N) (h5 : Moves m w w') : NextPost m N lo hi w e w' := ⟨v, h1, h2, h3, h4, h5⟩

theorem tmod_in (x k : Int) (hk : 1 ≤ k) : -k < x.tmod k ∧ x.tmod k < k := by
  have hm : (x.tmod k).natAbs < k.natAbs := by
    rw [Int.natAbs_tmod]; exact Nat.mod_lt _ (by omega)
  omega

set_option maxHeartbeats 400000 in
theorem next_any (m N : Nat) (k : Int) (w : World) (h : IsMk w m N) (hN : N ≤ 1000000000000) (hk : 1 ≤ k) (hk2 : k ≤ 4611686018427387904) :
    Calls Tryz.prog 19 #[.pointer (some ⟨m, 0, none⟩), .int .i64 k] w (NextPost m (N + 1) 0 (k - 1) w) := by
  have H := h
  obtain ⟨h1, ⟨n, hn, hc⟩, h3, a, len, cap, h4, h5, h6⟩ := h
  have hk0 : (k == 0) = false := beq_eq_false_iff_ne.2 (by omega)
  have fin : ∀ j, IsMk ((w.drewN j).setCell ⟨m, 1, none⟩ (.int .i64 (n + 1))) m (N + 1) := fun j => H.step hn hc
  have fin0 : IsMk (w.setCell ⟨m, 1, none⟩ (.int .i64 (n + 1))) m (N + 1) := H.step (j := 0) hn hc
  have HM : Hid ((∀ j, IsMk ((w.drewN j).setCell ⟨m, 1, none⟩ (.int .i64 (n + 1))) m (N + 1)) ∧ IsMk (w.setCell ⟨m, 1, none⟩ (.int .i64 (n + 1))) m (N + 1)) := Lib.hid ⟨fin, fin0⟩
  clear fin fin0 H
  rcases h6 with rfl | ⟨b, off, rfl, hb, h6⟩
  · go_enter Tryz.func19, Tryz.ntmps19
    go_wp2
    go_ret
    exact NextPost.mk' 0 rfl (by omega) (by omega) HM.out.2 (Moves.setCell (m := m) (Moves.refl m w) (Or.inl rfl) _)
  · by_cases hp : len = 0
    · subst hp
      clear h6
      go_enter Tryz.func19, Tryz.ntmps19
      go_wp2
      go_ret
      exact NextPost.mk' 0 rfl (by omega) (by omega) HM.out.2 (Moves.setCell (m := m) (Moves.refl m w) (Or.inl rfl) _)
    · obtain ⟨z, hz, z1, z2⟩ := h6 (n % len) (Nat.mod_lt _ (by omega))
      clear h6
      have l0 : (0 : Int) < (len : Int) := by omega
      have l1 : ((len : Int) == 0) = false := beq_eq_false_iff_ne.2 (by omega)
      have l2 : 0 ≤ (n : Int) % (len : Int) := Int.emod_nonneg _ (by omega)
      have l3 : (n : Int) % (len : Int) < (len : Int) := Int.emod_lt_of_pos _ l0
      have l4 : 0 ≤ (n : Int) / (len : Int) := Int.ediv_nonneg (by omega) (by omega)
      have l5 : (n : Int) / (len : Int) ≤ n := Int.ediv_le_self _ (by omega)
      clear hp
      go_enter Tryz.func19, Tryz.ntmps19
      go_wp2_with fail
      go_quiet (fail)
      go_wp2_with fail
      · have tb := tmod_in (wrap64 (z + (n : Int) / (len : Int) * 7919)) k hk
        go_ret
        refine NextPost.mk' (wrap64 ((wrap64 (z + (n : Int) / (len : Int) * 7919)).tmod k + k)) rfl ?_ ?_ (HM.out.1 _) (Moves.setCell (m := m) (Moves.refl m w).drewN (Or.inl rfl) _)
        · rw [IntWalk.wrap64_in _ (by omega)]; omega
        · rw [IntWalk.wrap64_in _ (by omega)]; omega
      · have tb := tmod_in (wrap64 (z + (n : Int) / (len : Int) * 7919)) k hk
        go_ret
        refine NextPost.mk' ((wrap64 (z + (n : Int) / (len : Int) * 7919)).tmod k) rfl ?_ ?_ (HM.out.1 _) (Moves.setCell (m := m) (Moves.refl m w).drewN (Or.inl rfl) _)
        · assumption
        · omega

theorem mk_new {w : World} {a : Option Addr} {len cap : Nat} {zs : List Int} {T : TypeId} (h : IsRow .i64 w a len cap zs) : IsMk (w.alloc (.cells #[.slice a len cap, .int .i64 0] T)) w.heap.size 0 := by
  have e : (w.alloc (.cells #[.slice a len cap, .int .i64 0] T)).heap[w.heap.size]? = some (.cells #[.slice a len cap, .int .i64 0] T) := by
    show (w.heap.push _)[w.heap.size]? = _
    rw [Array.getElem?_push, if_pos rfl]
  refine ⟨by simp, ⟨0, Nat.le_refl _, by rw [cell_new]; rfl⟩, ?_, a, len, cap, by rw [cell_new]; rfl, ?_, ?_⟩
  · unfold World.frozen?; rw [e]; rfl
  · rcases h with ⟨rfl, rfl, rfl, rfl⟩ | ⟨x, rfl, hl, hm, hz, hc, hw⟩
    · exact Nat.zero_le _
    · exact Nat.le_trans hl hm
  · rcases h with ⟨rfl, rfl, rfl, rfl⟩ | ⟨⟨b, off, spot⟩, rfl, hl, hm, hz, hc, hw⟩
    · exact Or.inl rfl
    · by_cases h0 : len = 0
      · exact Or.inl h0
      · have h1 := hc 0 (by omega)
        have hs : spot = none := by simpa [Addr.add] using World.cell?_spot h1
        subst hs
        have hb : b < w.heap.size := by simpa [Addr.add] using lt_of_cell h1
        refine Or.inr ⟨b, off, rfl, hb, fun i hi => ?_⟩
        have hi' : i < zs.length := by omega
        refine ⟨zs.getD i 0, ?_, ?_⟩
        · rw [((Below.refl w.heap.size w).alloc (Nat.le_refl _) _).cell (p := ⟨b, off + i, none⟩) hb]
          have g := hc i hi'
          by_cases i0 : i = 0
          · subst i0; simpa [Addr.add] using g
          · simpa [Addr.add, i0] using g
        · have := bounds_i64 (hw (zs.getD i 0) (by rw [List.getD_eq_getElem?_getD, List.getElem?_eq_getElem hi', Option.getD_some]; exact List.getElem_mem hi'))
          exact this

set_option maxHeartbeats 400000 in
theorem new_any (a : Option Addr) (len cap : Nat) (w : World) :
    Calls Tryz.prog 10 #[.slice a len cap] w fun e w' => e = .returned (.pointer (some ⟨w.heap.size, 0, none⟩)) ∧ w' = w.alloc (.cells #[.slice a len cap, .int .i64 0] 90) := by
  go_enter Tryz.func10, Tryz.ntmps10
  go_wp2
  go_ret
  exact ⟨rfl, rfl⟩

end Go.Proofs.YtimkmieohkefiaaGreat


namespace Go.Proofs.YtimkmieohkefiaaGreat
open Go.RowKit

/-- Block b holds the interval from lo to hi. -/
structure Loc (w : World) (b : Nat) (lo hi : Int) : Prop where
  c0 : w.cell? ⟨b, 0, none⟩ = some (.int .i64 lo)
  c1 : w.cell? ⟨b, 1, none⟩ = some (.int .i64 hi)
  lt : b < w.heap.size
theorem Loc.below {w w' : World} {b : Nat} {lo hi : Int} (h : Loc w b lo hi) (k : Below w.heap.size w w') : Loc w' b lo hi :=
  ⟨(k.cell (p := ⟨b, 0, none⟩) h.lt).trans h.c0, (k.cell (p := ⟨b, 1, none⟩) h.lt).trans h.c1, Nat.lt_of_lt_of_le h.lt k.size⟩
theorem Loc.moves {w w' : World} {m b : Nat} {lo hi : Int} (h : Loc w b lo hi) (k : Moves m w w') (hm : b ≠ m) : Loc w' b lo hi :=
  ⟨(k.cell (p := ⟨b, 0, none⟩) h.lt hm).trans h.c0, (k.cell (p := ⟨b, 1, none⟩) h.lt hm).trans h.c1, Nat.lt_of_lt_of_le h.lt k.size⟩
theorem Loc.alloc {w : World} {b : Nat} {lo hi : Int} (h : Loc w b lo hi) (o : Obj) : Loc (w.alloc o) b lo hi := h.below ((Below.refl _ _).alloc (Nat.le_refl _) _)
theorem Loc.drewN {w : World} {b n : Nat} {lo hi : Int} (h : Loc w b lo hi) : Loc (w.drewN n) b lo hi := h.below ⟨rfl, rfl, rfl, Nat.le_refl _, fun _ _ => rfl⟩
theorem Loc.drew {w : World} {b : Nat} {lo hi : Int} (h : Loc w b lo hi) : Loc w.drew b lo hi := h.below ⟨rfl, rfl, rfl, Nat.le_refl _, fun _ _ => rfl⟩
theorem Loc.new {w : World} {lo hi : Int} {T : TypeId} (b : Nat) (hb : b = w.heap.size) : Loc (w.alloc (.cells #[.int .i64 lo, .int .i64 hi] T)) b lo hi := by
  subst hb; exact ⟨by rw [cell_new]; rfl, by rw [cell_new]; rfl, by simp⟩

/-- Block b holds a list of n numbers. -/
structure Lst (w : World) (b n : Nat) : Prop where
  cs : ∀ j, j < n → ∃ v : Int, w.cell? ⟨b, j, none⟩ = some (.int .i64 v)
  lt : b < w.heap.size
theorem Lst.below {w w' : World} {b n : Nat} (h : Lst w b n) (k : Below w.heap.size w w') : Lst w' b n :=
  ⟨fun j hj => let ⟨v, hv⟩ := h.cs j hj; ⟨v, (k.cell (p := ⟨b, j, none⟩) h.lt).trans hv⟩, Nat.lt_of_lt_of_le h.lt k.size⟩
theorem Lst.new {w : World} {zs : List Int} {T : TypeId} (b : Nat) (hb : b = w.heap.size) : Lst (w.alloc (.cells (zs.map (Value.int .i64)).toArray T)) b zs.length :=
  ⟨fun j hj => let ⟨v, hv, _⟩ := new_pick w T (fun _ => True) zs (fun _ _ => trivial) b hb j hj; ⟨v, hv⟩, by subst hb; simp⟩

theorem IsMk.drew {w : World} {m N : Nat} (h : IsMk w m N) : IsMk w.drew m N := h.stays' ⟨rfl, rfl, rfl, Nat.le_refl _, fun _ _ => rfl⟩
/-- What holds at the head of each round of a law over a maker. -/
structure Rnd (w wr : World) (N : Nat) : Prop where
  mkr : IsMk wr w.heap.size N
  bel : Below w.heap.size w wr
theorem Rnd.lt {w wr : World} {N : Nat} (h : Rnd w wr N) : w.heap.size < wr.heap.size := h.mkr.lt
theorem Rnd.le {w wr : World} {N : Nat} (h : Rnd w wr N) : w.heap.size ≤ wr.heap.size := Nat.le_of_lt h.mkr.lt
theorem Rnd.step {w a b : World} {N M : Nat} (h : Rnd w a N) (k : Moves w.heap.size a b) (g : IsMk b w.heap.size M) : Rnd w b M := ⟨g, k.below h.bel (Nat.le_refl _) h.le⟩
theorem Rnd.below {w a b : World} {N : Nat} (h : Rnd w a N) (k : Below a.heap.size a b) : Rnd w b N := ⟨h.mkr.stays' k, h.bel.trans (k.mono h.le)⟩
theorem Rnd.alloc {w a : World} {N : Nat} (h : Rnd w a N) (o : Obj) : Rnd w (a.alloc o) N := h.below ((Below.refl _ _).alloc (Nat.le_refl _) _)
theorem Rnd.drewN {w a : World} {N n : Nat} (h : Rnd w a N) : Rnd w (a.drewN n) N := h.below ⟨rfl, rfl, rfl, Nat.le_refl _, fun _ _ => rfl⟩
theorem Rnd.drew {w a : World} {N : Nat} (h : Rnd w a N) : Rnd w a.drew N := h.below ⟨rfl, rfl, rfl, Nat.le_refl _, fun _ _ => rfl⟩
theorem Rnd.more {w a : World} {N M : Nat} (h : Rnd w a N) (k : N ≤ M) : Rnd w a M := ⟨h.mkr.more k, h.bel⟩
theorem Rnd.new {w : World} {a : Option Addr} {len cap : Nat} {zs : List Int} {T : TypeId} (h : IsRow .i64 w a len cap zs) : Rnd w (w.alloc (.cells #[.slice a len cap, .int .i64 0] T)) 0 :=
  ⟨mk_new h, (Below.refl _ _).alloc (Nat.le_refl _) _⟩

/-- Block b may be written. -/
structure Frz (w : World) (b : Nat) : Prop where
  f0 : w.frozen? ⟨b, 0, none⟩ = false
  f1 : w.frozen? ⟨b, 1, none⟩ = false
  lt : b < w.heap.size
theorem Frz.below {w w' : World} {b : Nat} (h : Frz w b) (k : Below w.heap.size w w') : Frz w' b :=
  ⟨(k.frozen (p := ⟨b, 0, none⟩) h.lt).trans h.f0, (k.frozen (p := ⟨b, 1, none⟩) h.lt).trans h.f1, Nat.lt_of_lt_of_le h.lt k.size⟩
theorem Frz.moves {w w' : World} {m b : Nat} (h : Frz w b) (k : Moves m w w') (hm : b ≠ m) : Frz w' b :=
  ⟨(k.frozen (p := ⟨b, 0, none⟩) h.lt hm).trans h.f0, (k.frozen (p := ⟨b, 1, none⟩) h.lt hm).trans h.f1, Nat.lt_of_lt_of_le h.lt k.size⟩
theorem Frz.alloc {w : World} {b : Nat} (h : Frz w b) (o : Obj) : Frz (w.alloc o) b := h.below ((Below.refl _ _).alloc (Nat.le_refl _) _)
theorem Frz.new {w : World} {cs : Array Value} {T : TypeId} (b : Nat) (hb : b = w.heap.size) : Frz (w.alloc (.cells cs T)) b := by
  subst hb
  have e : (w.alloc (.cells cs T)).heap[w.heap.size]? = some (.cells cs T) := by
    show (w.heap.push _)[w.heap.size]? = _
    rw [Array.getElem?_push, if_pos rfl]
  exact ⟨by unfold World.frozen?; rw [e]; rfl, by unfold World.frozen?; rw [e]; rfl, by simp⟩
theorem Frz.put {w : World} {b c : Nat} {u v : Value} (h : Frz w b) : Frz ((w.setCell ⟨c, 0, none⟩ u).setCell ⟨c, 1, none⟩ v) b :=
  ⟨by rw [World.frozen?_setCell, World.frozen?_setCell]; exact h.f0, by rw [World.frozen?_setCell, World.frozen?_setCell]; exact h.f1, by rw [World.size_setCell, World.size_setCell]; exact h.lt⟩
theorem Rnd.put {w a : World} {N c : Nat} {u v : Value} (h : Rnd w a N) (hc : w.heap.size < c) : Rnd w ((a.setCell ⟨c, 0, none⟩ u).setCell ⟨c, 1, none⟩ v) N :=
  ⟨(h.mkr.setCell hc _).setCell hc _, (h.bel.setCell (Nat.le_of_lt hc) _).setCell (Nat.le_of_lt hc) _⟩

end Go.Proofs.YtimkmieohkefiaaGreat

namespace Go.Proofs.YtimkmieohkefiaaGreat
open Go.RowKit

/-- A digit's byte. -/
def dig (c : UInt8) : Bool := decide (48 ≤ c.toNat ∧ c.toNat ≤ 57)
/-- A string of n digits. -/
def dgs (s : ByteArray) (n : Nat) : Bool := decide (s.size = n) && s.data.toList.all dig

/-- Block b holds the bytes xs, and may be written. -/
structure Byts (w : World) (b : Nat) (xs : List Int) : Prop where
  cs : ∀ j, j < xs.length → w.cell? ⟨b, j, none⟩ = some (.int .u8 (xs.getD j 0))
  fs : ∀ j, j < xs.length → w.frozen? ⟨b, j, none⟩ = false
  lt : b < w.heap.size
theorem Byts.below {w w' : World} {b : Nat} {xs : List Int} (h : Byts w b xs) (k : Below w.heap.size w w') : Byts w' b xs :=
  ⟨fun j hj => (k.cell (p := ⟨b, j, none⟩) h.lt).trans (h.cs j hj), fun j hj => (k.frozen (p := ⟨b, j, none⟩) h.lt).trans (h.fs j hj), Nat.lt_of_lt_of_le h.lt k.size⟩
theorem Byts.moves {w w' : World} {m b : Nat} {xs : List Int} (h : Byts w b xs) (k : Moves m w w') (hm : b ≠ m) : Byts w' b xs :=
  ⟨fun j hj => (k.cell (p := ⟨b, j, none⟩) h.lt hm).trans (h.cs j hj), fun j hj => (k.frozen (p := ⟨b, j, none⟩) h.lt hm).trans (h.fs j hj), Nat.lt_of_lt_of_le h.lt k.size⟩
theorem Byts.alloc {w : World} {b : Nat} {xs : List Int} (h : Byts w b xs) (o : Obj) : Byts (w.alloc o) b xs := h.below ((Below.refl _ _).alloc (Nat.le_refl _) _)
theorem Byts.drewN {w : World} {b n : Nat} {xs : List Int} (h : Byts w b xs) : Byts (w.drewN n) b xs := h.below ⟨rfl, rfl, rfl, Nat.le_refl _, fun _ _ => rfl⟩
theorem Byts.drew {w : World} {b : Nat} {xs : List Int} (h : Byts w b xs) : Byts w.drew b xs := h.below ⟨rfl, rfl, rfl, Nat.le_refl _, fun _ _ => rfl⟩
theorem getD_set (xs : List Int) (i j : Nat) (v : Int) (hi : i < xs.length) : (xs.set i v).getD j 0 = if j = i then v else xs.getD j 0 := by
  rw [List.getD_eq_getElem?_getD, List.getElem?_set]
  by_cases e : i = j
  · subst e; rw [if_pos rfl, if_pos hi, if_pos rfl]; rfl
  · rw [if_neg e, if_neg (Ne.symm e), List.getD_eq_getElem?_getD]
theorem Byts.store {w : World} {b : Nat} {xs : List Int} (h : Byts w b xs) (i : Nat) (hi : i < xs.length) (v : Int) : Byts (w.setCell ⟨b, i, none⟩ (.int .u8 v)) b (xs.set i v) := by
  refine ⟨fun j hj => ?_, fun j hj => ?_, by rw [World.size_setCell]; exact h.lt⟩
  · rw [List.length_set] at hj
    rw [getD_set xs i j v hi]
    by_cases e : j = i
    · subst e; rw [if_pos rfl]; exact World.cell?_setCell_same _ _ _ (h.cs j hj)
    · rw [if_neg e, World.cell?_setCell_other _ _ _ _ (fun k => e (by have := congrArg Addr.off k; exact this.symm))]; exact h.cs j hj
  · rw [List.length_set] at hj
    rw [World.frozen?_setCell]; exact h.fs j hj
theorem getD_rep (n j : Nat) : (List.replicate n (0 : Int)).getD j 0 = 0 := by
  rw [List.getD_eq_getElem?_getD, List.getElem?_replicate]; split <;> rfl
theorem Byts.made {w : World} {n : Nat} {T : TypeId} (b : Nat) (hb : b = w.heap.size) : Byts (w.alloc (.cells (madeCells #[.int .u8 0] n) T)) b (List.replicate n 0) := by
  subst hb
  have e : (w.alloc (.cells (madeCells #[.int .u8 0] n) T)).heap[w.heap.size]? = some (.cells (madeCells #[.int .u8 0] n) T) := by
    show (w.heap.push _)[w.heap.size]? = _
    rw [Array.getElem?_push, if_pos rfl]
  refine ⟨fun j hj => ?_, fun j hj => by unfold World.frozen?; rw [e]; rfl, by simp⟩
  rw [List.length_replicate] at hj
  rw [cell_new, getD_rep]
  simp [madeCells, hj]
  rw [Nat.mod_one]; rfl

/-- The string of such bytes. -/
theorem Byts.str {P : Program} {w : World} {b cap : Nat} {xs : List Int} (h : Byts w b xs) (src e dst : TypeId) (hs : P.underlying src = some (.slice e)) (he : P.underlying e = some (.int .u8)) (hd : P.underlying dst = some .string) :
    (convert src dst (.slice (some ⟨b, 0, none⟩) xs.length cap)).run P w = .ok (.string (strOfNums xs)) w :=
  run_convert_bytes_arg w src e hs he b 0 xs.length cap xs rfl (fun i hi => by rw [Nat.zero_add]; exact h.cs i hi) dst hd

theorem dgs_strOfNums {xs : List Int} (h : ∀ j, j < xs.length → 48 ≤ xs.getD j 0 ∧ xs.getD j 0 ≤ 57) : dgs (strOfNums xs) xs.length = true := by
  unfold dgs
  rw [strOfNums_size, strOfNums_data, List.all_map]
  simp only [decide_true, Bool.true_and, List.all_eq_true]
  intro x hx
  obtain ⟨j, hj, rfl⟩ := List.mem_iff_getElem.1 hx
  have g := h j hj
  rw [List.getD_eq_getElem?_getD, List.getElem?_eq_getElem hj, Option.getD_some] at g
  show dig (UInt8.ofNat xs[j].toNat) = true
  unfold dig
  refine decide_eq_true ?_
  have e : (UInt8.ofNat xs[j].toNat).toNat = xs[j].toNat := by rw [UInt8.toNat_ofNat']; omega
  omega

end Go.Proofs.YtimkmieohkefiaaGreat

namespace Go.Proofs.YtimkmieohkefiaaGreat
open Go.RowKit

theorem infoByte : (Tryz.prog.info? 5).map (fun i => (i.zero, i.size, i.bytes)) = some (some (.int .u8 0), 1, 1) := by kernel_rfl
theorem make_bytes (w : World) (n : Nat) (hn : n ≤ 1000000) : (Instr.makeSlice 127 (.int .i64 n) (.int .i64 n)).run Tryz.prog w = .ok (.slice (some ⟨w.heap.size, 0, none⟩) n n) (w.alloc (.cells (madeCells #[.int .u8 0] n) 5)) := by
  obtain ⟨i0, hi, hz0, hz1, hz2⟩ := info_parts infoByte
  have h := run_make (P := Tryz.prog) w 127 5 i0 (.int .u8 0) Tryz.underlying127 hi hz0 .i64 .i64 (n : Int) (n : Int) (by omega) (Int.le_refl _) (by rw [hz2]; omega) (by omega)
  rw [hz1] at h
  simpa [Value.cells] using h

/-- What Digits and its like leave: a string of which P holds. -/
def StrPost (m N : Nat) (P : ByteArray → Prop) (w : World) (e : Ending) (w' : World) : Prop := ∃ s : ByteArray, e = .returned (.string s) ∧ P s ∧ IsMk w' m N ∧ Moves m w w'

set_option maxHeartbeats 800000 in
theorem mdigits_any (m N n : Nat) (w : World) (h : IsMk w m N) (hN : N ≤ 100000000000) (hn : n ≤ 1000) :
    Calls Tryz.prog 75 #[.pointer (some ⟨m, 0, none⟩), .int .i64 n] w (StrPost m (N + n) (fun s => dgs s n = true) w) := by
  have hm := h.lt
  have hmk := fun w => make_bytes w n (by omega)
  go_enter Tryz.func75, Tryz.ntmps75
  go_wp2_with fail
  go_loopw [6] (fun i wr => ∃ (k : Nat) (xs : List Int), k ≤ n ∧ i = .int .i64 k ∧ xs.length = n ∧ (∀ j, j < k → 48 ≤ xs.getD j 0 ∧ xs.getD j 0 ≤ 57) ∧ IsMk wr m (N + k) ∧ Moves m w wr ∧ Byts wr w.heap.size xs) (fun i _ => n - (intOf i).toNat)
  case atStart => exact ⟨0, List.replicate n 0, by omega, rfl, by simp, fun j hj => by omega, h.alloc _, (Moves.refl m w).alloc _, Byts.made _ rfl⟩
  case round =>
    obtain ⟨k, xs, hk, rfl, hxs, hd, M, V, B⟩ := hrel
    have HD := Lib.hid hd
    have HX := Lib.hid hxs
    clear hd hxs
    by_cases hlt : k < n
    · go_wp2_with fail
      refine (next_any m (N + k) _ _ M (by omega) (by omega) (by omega)).mono ?_
      rintro e w1 ⟨v, rfl, v1, v2, k1, k2⟩
      have B1 := B.moves k2 (by omega)
      have V1 := V.trans k2
      have hb : w.heap.size < w1.heap.size := B1.lt
      have c0 := B1.cs k (by have := HX.out; omega)
      have f0 := B1.fs k (by have := HX.out; omega)
      generalize xs.getD k 0 = old at *
      clear B V M k2
      go_wp2_with fail
      go_roundw
      case rel =>
        refine ⟨k + 1, xs.set k (48 + v), by omega, by go_num, by rw [List.length_set]; exact HX.out, fun j hj => ?_, k1.setCell (by simp; omega) _, Moves.setCell (m := m) V1 (Or.inr (Nat.le_refl _)) _, B1.store k (by have := HX.out; omega) _⟩
        rw [getD_set _ _ _ _ (by have := HX.out; omega)]
        split
        · omega
        · exact HD.out j (by omega)
      case measure => simp [intOf]; omega
    · obtain rfl : n = k := by omega
      have hc := fun (cap : Nat) => B.str (P := Tryz.prog) (cap := cap) 127 5 9 Tryz.underlying127 Tryz.underlying5 Tryz.underlying9
      have hd := dgs_strOfNums (xs := xs) (fun j hj => HD.out j (by have := HX.out; omega))
      rw [HX.out] at hc hd
      clear B
      go_wp2_with fail
      go_ret
      exact ⟨_, rfl, hd, M, V⟩

end Go.Proofs.YtimkmieohkefiaaGreat

namespace Go.Proofs.YtimkmieohkefiaaGreat
open Go.RowKit

section
variable {P : Program} {ops : Array Oper} {Q : Exit → Act → World → Prop} {S : World → Prop} {tl : Nat → Bool}
/-- Whatever comes up next; S holds behind it, unless it is one of the tail. -/
def AnyT (P : Program) (ops : Array Oper) (Q : Exit → Act → World → Prop) (S : World → Prop) (tl : Nat → Bool) : Nat → Array Bool → Act → World → Prop
  | 0, listed, a, w => Region.ready .any ops listed = [] ∧ Q .normal a w
  | fuel + 1, listed, a, w =>
    (Region.ready .any ops listed = [] → Q .normal a w) ∧
    ∀ i ∈ Region.ready .any ops listed, wpOp P ops Q i (fun a' w' => (tl i = false → S w') ∧ AnyT P ops Q S tl fuel (listed.setIfInBounds i true) a' w') a w
theorem AnyT.any : ∀ (fuel : Nat) (listed : Array Bool) (a : Act) (w : World), AnyT P ops Q S tl fuel listed a w → wpAny P .any ops Q fuel listed a w
  | 0, _, _, _, h => h
  | fuel + 1, _, _, _, h => ⟨h.1, fun i hi => wpOp_mono (fun a' w' h' => AnyT.any fuel _ a' w' h'.2) (h.2 i hi)⟩
/-- Every operation of the tail that has not come up waits for number i. -/
def waits (ops : Array Oper) (tl : Nat → Bool) (listed : Array Bool) (i : Nat) : Bool :=
  (List.range ops.size).all fun j => !tl j || listed.getD j false || (match ops[j]? with
    | some o => o.after.any fun e => Region.binds .any e && e.on == i
    | none => true)
theorem waits_spec {i : Nat} {listed : Array Bool} (h : waits ops tl listed i = true) : ∀ j o, ops[j]? = some o → tl j = true → listed.getD j false = false → ∃ e ∈ o.after, Region.binds .any e = true ∧ e.on = i := by
  intro j o hj ht hl
  unfold waits at h
  rw [List.all_eq_true] at h
  have h1 := h j (List.mem_range.2 (Array.getElem?_eq_some_iff.1 hj).1)
  rw [hj, ht, hl] at h1
  simp only [Bool.not_true, Bool.false_or, Array.any_eq_true] at h1
  obtain ⟨k, hk, hb⟩ := h1
  rw [Bool.and_eq_true, beq_iff_eq] at hb
  exact ⟨_, Array.getElem_mem hk, hb.1, hb.2⟩
theorem unlisted {i : Nat} {listed : Array Bool} (hr : i ∈ Region.ready .any ops listed) : listed.getD i false = false := by
  have h0 := (mem_ready.1 hr).1
  rcases Nat.lt_or_ge i listed.size with h' | h'
  · simp [h'] at h0 ⊢; exact h0
  · simp [Array.getElem?_eq_none h']
theorem unset {j k : Nat} {listed : Array Bool} (h : (listed.setIfInBounds j true).getD k false = false) : listed.getD k false = false := by
  cases hk : listed.getD k false with
  | false => rfl
  | true => rw [getD_set_true hk] at h; cases h
theorem AnyT.first {i : Nat} {oi : Oper} {v : Value} (hi : ops[i]? = some oi) (hsel : ∀ (j : Nat) (o : Oper) cs b, ops[j]? = some o → o.op ≠ .select cs b)
    (hQ : ∀ c a w, Q (.panic c) (a.put oi.dst v) w → Q (.panic c) a w) :
    ∀ (fuel : Nat) (listed : Array Bool) (a : Act) (w : World),
      (∀ j o, ops[j]? = some o → tl j = true → listed.getD j false = false → ∃ e ∈ o.after, Region.binds .any e = true ∧ e.on = i) →
      (∀ j oj, ops[j]? = some oj → j ≠ i → listed.getD j true = false → (∀ e ∈ oj.after, Region.binds .any e = true → e.on ≠ i) → oi.apart ops oj = true) →
      i ∈ Region.ready .any ops listed → YieldsIf P ops S oi v a → S w →
      AnyT P ops Q S tl fuel (listed.setIfInBounds i true) (a.put oi.dst v) w → AnyT P ops Q S tl (fuel + 1) listed a w := by
  intro fuel
  induction fuel with
  | zero =>
    intro listed a w _ _ hr hy hS H
    refine ⟨fun h => (by rw [h] at hr; cases hr), fun j hj => ?_⟩
    by_cases hji : j = i
    · subst hji; exact hy.wpOp hi hS ⟨fun _ => hS, H⟩
    · have := ready_mono hj hji
      rw [H.1] at this
      cases this
  | succ fuel ih =>
    intro listed a w hw hfree hr hy hS H
    refine ⟨fun h => (by rw [h] at hr; cases hr), fun j hj => ?_⟩
    by_cases hji : j = i
    · subst hji; exact hy.wpOp hi hS ⟨fun _ => hS, H⟩
    · have h1 := H.2 j (ready_mono hj hji)
      obtain ⟨hjun, oj, hoj, hall⟩ := mem_ready.1 hj
      have hu := unlisted hr
      have hnot : ∀ e ∈ oj.after, Region.binds .any e = true → e.on ≠ i := fun e he hb heq => by
        have := hall e he hb
        rw [heq, hu] at this
        cases this
      have htj : tl j = false := by
        cases ht : tl j with
        | false => rfl
        | true =>
          obtain ⟨e, he, hb, heq⟩ := hw j oj hoj ht (unlisted hj)
          exact absurd heq (hnot e he hb)
      have h2 := wpOp_putIf hoj (hfree j oj hoj hji hjun hnot) (fun cs b => hsel i oi cs b hi) (fun cs b => hsel j oj cs b hoj) hQ hy h1
      have hfree' : ∀ k ok, ops[k]? = some ok → k ≠ i → (listed.setIfInBounds j true).getD k true = false →
          (∀ e ∈ ok.after, Region.binds .any e = true → e.on ≠ i) → oi.apart ops ok = true := fun k ok hk hki hun hno => by
        refine hfree k ok hk hki ?_ hno
        by_cases hjk : j = k
        · subst hjk; exact hjun
        · rw [getD_set_ne true hjk] at hun; exact hun
      refine wpOp_mono (fun a' w' h3 => ⟨h3.2.1, ih (listed.setIfInBounds j true) a' w' (fun k o hk ht hl => hw k o hk ht (unset hl)) hfree' (ready_mono hr (Ne.symm hji)) h3.1 (h3.2.1 htj) ?_⟩) h2
      rw [Array.setIfInBounds_comm _ _ hji]
      exact h3.2.2
theorem AnyT.take {i : Nat} {oi : Oper} {v : Value} {fuel : Nat} {listed : Array Bool} {a : Act} {w : World} (hi : ops[i]? = some oi)
    (hs : Region.noSelect ops = true) (hf : Region.free .any ops listed i = true) (hr : (Region.ready .any ops listed).contains i = true) (hw : waits ops tl listed i = true)
    (hQ : ∀ c a w, Q (.panic c) (a.put oi.dst v) w → Q (.panic c) a w) (hy : YieldsIf P ops S oi v a) (hS : S w)
    (h : AnyT P ops Q S tl fuel (listed.setIfInBounds i true) (a.put oi.dst v) w) : AnyT P ops Q S tl (fuel + 1) listed a w :=
  AnyT.first hi (Region.noSelect_spec hs) hQ fuel listed a w (waits_spec hw) (Region.free_spec hi hf) (by simpa using hr) hy hS h
theorem AnyT.begin_ {id : Nat} {a : Act} {w : World} (tl : Nat → Bool) (S : World → Prop) (hm : P.follows .mixedOrders = true) (hS : S w.drew)
    (h : S w.drew → AnyT P ops Q S tl ops.size (Array.replicate ops.size false) a w.drew) : (Code.region id ops true).wp P Q a w :=
  wp_region_any hm (AnyT.any _ _ _ _ (h hS))
theorem AnyT.begin_at {id : Nat} {a : Act} {w w0 : World} (tl : Nat → Bool) (S : World → Prop) (hm : P.follows .mixedOrders = true) (he : w0 = w.drew) (hS : S w0)
    (h : S w0 → AnyT P ops Q S tl ops.size (Array.replicate ops.size false) a w0) : (Code.region id ops true).wp P Q a w := by
  subst he
  exact AnyT.begin_ tl S hm hS h
theorem AnyT.done_ {listed : Array Bool} {a : Act} {w : World} (hr : Region.ready .any ops listed = []) (h : Q .normal a w) : ∀ fuel, AnyT P ops Q S tl fuel listed a w
  | 0 => ⟨hr, h⟩
  | _ + 1 => ⟨fun _ => h, by rw [hr]; simp⟩
/-- One of those that may come up. -/
theorem AnyT.branch {rs : List Nat} {fuel : Nat} {listed : Array Bool} {a : Act} {w : World} (hr : Region.ready .any ops listed = rs) (hne : rs ≠ [])
    (h : ∀ i ∈ rs, wpOp P ops Q i (fun a' w' => (tl i = false → S w') ∧ AnyT P ops Q S tl fuel (listed.setIfInBounds i true) a' w') a w) : AnyT P ops Q S tl (fuel + 1) listed a w :=
  ⟨fun h0 => absurd (hr ▸ h0) hne, hr ▸ h⟩
theorem AnyT.step {i : Nat} {o : Oper} {fuel : Nat} {listed : Array Bool} {a : Act} {w : World} (ho : ops[i]? = some o)
    (h : ∀ K' : Act → World → Prop, Hid (∀ a w, (tl i = false → S w) → AnyT P ops Q S tl fuel (listed.setIfInBounds i true) a w → K' a w) → if Region.wanted o (yielded ops a.tmps) = true then Oper.wp P o a w K' Q else K' (a.put o.dst undef) w) :
    wpOp P ops Q i (fun a' w' => (tl i = false → S w') ∧ AnyT P ops Q S tl fuel (listed.setIfInBounds i true) a' w') a w :=
  wpOp_step ho (fun K' hK => h K' (Lib.hid (fun a w h1 h2 => hK a w ⟨h1, h2⟩)))
theorem all_nil {α : Type} {p : α → Prop} : ∀ y ∈ ([] : List α), p y := fun y hy => by cases hy
theorem all_cons {α : Type} {p : α → Prop} {x : α} {l : List α} (h : p x) (h' : ∀ y ∈ l, p y) : ∀ y ∈ x :: l, p y := fun y hy => by
  rcases List.mem_cons.1 hy with rfl | hy
  · exact h
  · exact h' y hy
/-- An operation that yields a value, said by the caller. -/
theorem AnyT.yield {i : Nat} {o : Oper} {fuel : Nat} {listed : Array Bool} {a : Act} {w w' : World} {v : Value} {d : Option Tmp} (ho : ops[i]? = some o) (hg : o.guard = none) (hd : o.dst = d)
    (hrun : (execOp a.eval o).run P w = .ok (.value v) w') (hS : tl i = false → S w') (h : AnyT P ops Q S tl fuel (listed.setIfInBounds i true) (a.put d v) w') :
    wpOp P ops Q i (fun a' w' => (tl i = false → S w') ∧ AnyT P ops Q S tl fuel (listed.setIfInBounds i true) a' w') a w :=
  AnyT.step ho (fun KK hK => by
    subst hd
    rw [if_pos (by unfold Region.wanted; rw [hg])]
    unfold Oper.wp
    rw [hrun, Oper.upon_value]
    exact hK.out _ _ hS h)
/-- An operation that enters a function. -/
theorem AnyT.enter {i : Nat} {o : Oper} {fuel : Nat} {listed : Array Bool} {a : Act} {w : World} {f : FuncId} {args : Array Value} {R : Ending → World → Prop} {d : Option Tmp} (ho : ops[i]? = some o) (hg : o.guard = none) (hd : o.dst = d)
    (hrun : (execOp a.eval o).run P w = .ok (.enter f args) w) (hc : Calls P f args w R)
    (h : ∀ e w', R e w' → ∃ v, e = .returned v ∧ (tl i = false → S w') ∧ AnyT P ops Q S tl fuel (listed.setIfInBounds i true) (a.put d v) w') :
    wpOp P ops Q i (fun a' w' => (tl i = false → S w') ∧ AnyT P ops Q S tl fuel (listed.setIfInBounds i true) a' w') a w :=
  AnyT.step ho (fun KK hK => by
    subst hd
    rw [if_pos (by unfold Region.wanted; rw [hg])]
    unfold Oper.wp
    rw [hrun, Oper.upon_enter]
    refine hc.mono fun e w' hR => ?_
    obtain ⟨v, rfl, h1, h2⟩ := h e w' hR
    exact hK.out _ _ h1 h2)
theorem AnyT.takeD {i : Nat} {oi : Oper} {v : Value} {d : Option Tmp} {fuel : Nat} {listed : Array Bool} {a : Act} {w : World} (hi : ops[i]? = some oi) (hd : oi.dst = d)
    (hs : Region.noSelect ops = true) (hf : Region.free .any ops listed i = true) (hr : (Region.ready .any ops listed).contains i = true) (hw : waits ops tl listed i = true)
    (hQ : ∀ c a w, Q (.panic c) (a.put d v) w → Q (.panic c) a w) (hy : YieldsIf P ops S oi v a) (hS : S w)
    (h : AnyT P ops Q S tl fuel (listed.setIfInBounds i true) (a.put d v) w) : AnyT P ops Q S tl (fuel + 1) listed a w := by
  subst hd
  exact AnyT.take hi hs hf hr hw hQ hy hS h
end
end Go.Proofs.YtimkmieohkefiaaGreat

namespace Go.Proofs.YtimkmieohkefiaaGreat
open Go.RowKit

def noDefer (ops : Array Oper) : Bool := ops.all fun o => match o.op with | .defer _ => false | _ => true
theorem noDefer_spec {ops : Array Oper} (h : noDefer ops = true) {i : Nat} {o : Oper} (hi : ops[i]? = some o) : ∀ c, o.op ≠ .defer c := by
  intro c e
  unfold noDefer at h
  rw [Array.all_eq_true] at h
  obtain ⟨hlt, hv⟩ := Array.getElem?_eq_some_iff.1 hi
  have := h i hlt
  rw [hv, e] at this
  cases this
theorem wpIn_round {F : Fence} {n : Nat} {P : Program} {o : Oper} {a : Act} {w : World} {K : Act → World → Prop} {Q : Exit → Act → World → Prop} (l : Nat) (hro : F.round = none) (hd : ∀ c, o.op ≠ .defer c) (h : o.wpIn F n P a w K Q) : o.wpIn (F.inRound l) n P a w K Q := by
  refine ⟨h.1, ?_⟩
  have h2 := h.2
  rw [hro, Oper.semAt_none] at h2
  rw [show (F.inRound l).round = some l from rfl, Oper.semAt_eq _ _ _ hd]
  generalize (execOp a.eval o).run P w = r at h2 ⊢
  exact h2
theorem wpOpIn_round {F : Fence} {n : Nat} {P : Program} {ops : Array Oper} {Q : Exit → Act → World → Prop} {i : Nat} {K K' : Act → World → Prop} {a : Act} {w : World} (l : Nat) (hro : F.round = none) (hd : noDefer ops = true) (hk : ∀ a w, K a w → K' a w) (h : wpOpIn F n P ops Q i K a w) : wpOpIn (F.inRound l) n P ops Q i K' a w := by
  have h := wpOpIn_mono hk h
  unfold wpOpIn at h ⊢
  split
  · rename_i e
    rw [e] at h; exact h
  · rename_i o e
    rw [e] at h
    simp only at h
    split
    · rename_i hw
      rw [if_pos hw] at h
      exact wpIn_round l hro (noDefer_spec hd e) h
    · rename_i hw
      rw [if_neg hw] at h
      exact h
theorem wpAnyIn_round {F : Fence} {n : Nat} {P : Program} {md : Region.Mode} {ops : Array Oper} {Q : Exit → Act → World → Prop} (l : Nat) (hro : F.round = none) (hd : noDefer ops = true) : ∀ (fuel : Nat) (listed : Array Bool) (a : Act) (w : World), wpAnyIn F n P md ops Q fuel listed a w → wpAnyIn (F.inRound l) n P md ops Q fuel listed a w
  | 0, _, _, _, h => h
  | fuel + 1, _, _, _, h => ⟨h.1, fun i hi => wpOpIn_round l hro hd (fun a w h => wpAnyIn_round l hro hd fuel _ a w h) (h.2 i hi)⟩
/-- One walk of the lexical order serves every order, within a round. -/
theorem wpIn_region_quiet_round {F : Fence} {n : Nat} {P : Program} (l₀ : Nat) {id : Nat} {Q : Exit → Act → World → Prop} {a : Act} {w : World} {l : List Oper} (hro : F.round = none) (hd : noDefer l.toArray = true) (hm : P.follows .mixedOrders = true) (hB : Region.lexB .any l.toArray = true)
    (h : wpQuietIn F n P l.toArray (fun w' => ∃ n, w' = w.drewN n) (fun a' => ∀ w', (∃ n, w' = w.drewN n) → Q .normal a' w') l a) : (Code.region id l.toArray true).wpIn (F.inRound l₀) n P Q a w := by
  simp only [Region.lexB, Bool.and_eq_true] at hB
  refine wpIn_region_any hm (wpAnyIn_round l₀ hro hd _ _ _ _ (wpAnyIn_of_quiet (C := fun w' => ∃ n, w' = w.drewN n) (Q := fun a' => ∀ w', (∃ n, w' = w.drewN n) → Q .normal a' w') hro (fun _ w' hw' h => h w' hw') _ _ _ _ ⟨1, rfl⟩ ?_))
  have := wpAnyQIn_lex (F := F) (n := n) (C := fun w' => ∃ n, w' = w.drewN n) (md := .any) hB.1 l 0 (Array.replicate l.toArray.size false) a (by simp) (by simpa using hB.2) h
  simpa using this

theorem rowsIn_wide {n : Nat} {P : Program} {row : String} {args : Array Value} {w : World} {R : Value → World → Prop} (h : Rows P row args w R) : RowsIn Fence.wide n P row args w R :=
  fun c cs _ => let ⟨v, w', r, s⟩ := h c cs; ⟨v, w', r, stepsIn_wide.2 s⟩
theorem operIn_of {n : Nat} {P : Program} {o : Oper} {a : Act} {w : World} {K : Act → World → Prop} {Q : Exit → Act → World → Prop} (h : o.wp P a w K Q) : o.wpIn Fence.wide n P a w K Q := by
  refine ⟨fun _ _ => trivial, ?_⟩
  rw [show Fence.wide.round = none from rfl, Oper.semAt_none]
  unfold Oper.wp at h
  generalize (execOp a.eval o).run P w = r at h ⊢
  cases r with
  | ok x w' =>
    cases x <;> simp only [Oper.upon, Oper.uponIn] at h ⊢ <;>
      first
        | exact h
        | exact ⟨fun h => absurd h (by simp [Fence.wide]), callsIn_wide.2 h⟩
        | exact ⟨fun h => absurd h (by simp [Fence.wide]), rowsIn_wide h⟩
        | exact h.elim
  | halt x w' => cases x <;> simp only [Oper.upon, Oper.uponIn] at h ⊢ <;> exact h
theorem anyIn_of {n : Nat} {P : Program} {md : Region.Mode} {ops : Array Oper} {Q : Exit → Act → World → Prop} (hq : ¬ LetsOut Q) : ∀ (fuel : Nat) (listed : Array Bool) (a : Act) (w : World), wpAny P md ops Q fuel listed a w → wpAnyIn Fence.wide n P md ops Q fuel listed a w
  | 0, _, _, _, h => h
  | fuel + 1, listed, a, w, h => ⟨h.1, fun i hi => by
      have h2 := wpOp_mono (fun a w h => anyIn_of (n := n) hq fuel (listed.setIfInBounds i true) a w h) (h.2 i hi)
      unfold wpOp at h2
      unfold wpOpIn
      split
      · rename_i e
        rw [e] at h2; exact h2
      · rename_i o e
        rw [e] at h2
        simp only at h2
        split
        · rename_i hw
          rw [if_pos hw] at h2
          exact operIn_of (h2.resolve_right (fun g => hq g.2))
        · rename_i hw
          rw [if_neg hw] at h2
          exact ⟨fun _ _ => trivial, h2⟩⟩
/-- An operation behind a guard that holds, which enters a function. -/
theorem AnyT.enterG {P : Program} {ops : Array Oper} {Q : Exit → Act → World → Prop} {S : World → Prop} {tl : Nat → Bool} {i : Nat} {o : Oper} {fuel : Nat} {listed : Array Bool} {a : Act} {w : World} {f : FuncId} {args : Array Value} {R : Ending → World → Prop} {d : Option Tmp} (ho : ops[i]? = some o) (hw : Region.wanted o (yielded ops a.tmps) = true) (hd : o.dst = d)
    (hrun : (execOp a.eval o).run P w = .ok (.enter f args) w) (hc : Calls P f args w R)
    (h : ∀ e w', R e w' → ∃ v, e = .returned v ∧ (tl i = false → S w') ∧ AnyT P ops Q S tl fuel (listed.setIfInBounds i true) (a.put d v) w') :
    wpOp P ops Q i (fun a' w' => (tl i = false → S w') ∧ AnyT P ops Q S tl fuel (listed.setIfInBounds i true) a' w') a w :=
  AnyT.step ho (fun KK hK => by
    subst hd
    rw [if_pos hw]
    unfold Oper.wp
    rw [hrun, Oper.upon_enter]
    refine hc.mono fun e w' hR => ?_
    obtain ⟨v, rfl, h1, h2⟩ := h e w' hR
    exact hK.out _ _ h1 h2)
/-- A region that draws, in a round, where its last operations lay memory or write. -/
theorem AnyT.round_at {P : Program} {n : Nat} {ops : Array Oper} {Q : Exit → Act → World → Prop} {id l : Nat} {a : Act} {w w0 : World} (tl : Nat → Bool) (S : World → Prop) (hd : noDefer ops = true) (hm : P.follows .mixedOrders = true) (hq : ∀ a w, ¬ Q .outgrown a w) (he : w0 = w.drew) (hS : S w0)
    (h : S w0 → AnyT P ops Q S tl ops.size (Array.replicate ops.size false) a w0) : (Code.region id ops true).wpIn (Fence.wide.inRound l) n P Q a w := by
  subst he
  exact wpIn_region_any hm (wpAnyIn_round l rfl hd _ _ _ _ (anyIn_of (fun g => by obtain ⟨a, w, g⟩ := g; exact hq a w g) _ _ _ _ (AnyT.any _ _ _ _ (h hS))))
end Go.Proofs.YtimkmieohkefiaaGreat

namespace Go.Proofs.YtimkmieohkefiaaGreat
open Go.RowKit

/-- The slice v is nil, or lies in a block of the call's own from base on; its n elements of m cells read as the numbers zs. -/
def Flat (e : TypeId) (m : Nat) (w : World) (base : Nat) (v : Value) (n : Nat) (zs : List Int) : Prop := w.ownsRow base e m v n (zs.map (Value.int .i64))
theorem Flat.len {e : TypeId} {m : Nat} {w : World} {base : Nat} {v : Value} {n : Nat} {zs : List Int} (h : Flat e m w base v n zs) : zs.length = n * m := by
  have := h.1; rwa [List.length_map] at this
theorem Flat.nil {e : TypeId} {m : Nat} {w : World} {base : Nat} : Flat e m w base (.slice none 0 0) 0 [] := ⟨by simp, Or.inl ⟨rfl, rfl⟩⟩
theorem Flat.drewN {e : TypeId} {m : Nat} {w : World} {base : Nat} {v : Value} {n : Nat} {zs : List Int} (h : Flat e m w base v n zs) (k : Nat) : Flat e m (w.drewN k) base v n zs := h
theorem Flat.alloc {e : TypeId} {m : Nat} {w : World} {base : Nat} {v : Value} {n : Nat} {zs : List Int} (h : Flat e m w base v n zs) (o : Obj) : Flat e m (w.alloc o) base v n zs := World.ownsRow.alloc h o
theorem Flat.base {e : TypeId} {m : Nat} {w : World} {base base' : Nat} {v : Value} {n : Nat} {zs : List Int} (h : Flat e m w base v n zs) (hb : base' ≤ base) : Flat e m w base' v n zs := by
  refine ⟨h.1, ?_⟩
  rcases h.2 with g | ⟨g, cap, cur, e1, e2, e3⟩
  · exact Or.inl g
  · exact Or.inr ⟨g, cap, cur, e1, Nat.le_trans hb e2, e3⟩
theorem Flat.below {e : TypeId} {m : Nat} {w w' : World} {base : Nat} {v : Value} {n : Nat} {zs : List Int} (h : Flat e m w base v n zs) (b : Below w.heap.size w w') : Flat e m w' base v n zs := by
  refine ⟨h.1, ?_⟩
  rcases h.2 with g | ⟨g, cap, cur, e1, e2, e3, e4⟩
  · exact Or.inl g
  · exact Or.inr ⟨g, cap, cur, e1, e2, (b.block g (Array.getElem?_eq_some_iff.1 e3).1).trans e3, e4⟩
theorem Flat.kept {e : TypeId} {m : Nat} {w w' : World} {base : Nat} {v : Value} {n : Nat} {zs : List Int} {row : Option Nat} (h : Flat e m w base v n zs) (hg : w.grownBy w' row) (hne : v.ownBlock = none ∨ v.ownBlock ≠ row) : Flat e m w' base v n zs := World.ownsRow.kept h hg hne
/-- What it looks like. -/
theorem Flat.slice {e : TypeId} {m : Nat} {w : World} {base : Nat} {v : Value} {n : Nat} {zs : List Int} (h : Flat e m w base v n zs) :
    ∃ A c, v = .slice A n c ∧ Row .i64 w w.heap.size A zs ∧ n ≤ c ∧ n ≤ maxLen ∧ (0 < n → ∃ g, A = some ⟨g, 0, none⟩ ∧ base ≤ g ∧ g < w.heap.size) := by
  have hl := h.len
  rcases h.2 with ⟨rfl, hn⟩ | ⟨g, cap, cur, rfl, e2, e3, e4, e5, e6, e7⟩
  · subst hn
    rw [Nat.zero_mul] at hl
    have : zs = [] := List.length_eq_zero_iff.1 hl
    subst this
    exact ⟨none, 0, rfl, Row.nil, Nat.le_refl _, by decide, fun h => absurd h (by simp)⟩
  · have hg : g < w.heap.size := (Array.getElem?_eq_some_iff.1 e3).1
    refine ⟨_, cap, rfl, fun j hj => ⟨_, rfl, hg, ?_⟩, e4, by omega, fun _ => ⟨g, rfl, e2, hg⟩⟩
    rw [add_own]
    have := World.ownsRow.cellAt h j (by rw [← hl]; exact hj)
    rw [this]
    simp [hj]
theorem Flat.block {e : TypeId} {m : Nat} {w : World} {base : Nat} {v : Value} {n : Nat} {zs : List Int} (h : Flat e m w base v n zs) {g : Nat} (hg : v.ownBlock = some g) : base ≤ g ∧ g < w.heap.size := by
  rcases h.2 with ⟨rfl, _⟩ | ⟨g', cap, cur, rfl, e2, e3, _⟩
  · simp [Value.ownBlock] at hg
  · simp [Value.ownBlock] at hg
    subst hg
    exact ⟨e2, (Array.getElem?_eq_some_iff.1 e3).1⟩
theorem Flat.app {e : TypeId} {m : Nat} {w : World} {base n k : Nat} {v : Value} {zs ys : List Int} (h : w.ownsRow base e m v (n + k) (zs.map (Value.int .i64) ++ ys.map (Value.int .i64))) : Flat e m w base v (n + k) (zs ++ ys) := by
  unfold Flat; rwa [List.map_append]
theorem Flat.store {e : TypeId} {m : Nat} {w : World} {base g n cap : Nat} {zs : List Int} (h : Flat e m w base (.slice (some ⟨g, 0, none⟩) n cap) n zs) (j : Nat) (x : Int) :
    Flat e m (w.setCell ⟨g, j, none⟩ (.int .i64 x)) base (.slice (some ⟨g, 0, none⟩) n cap) n (zs.set j x) := by
  have := (World.ownsRow.stored h j (.int .i64 x)).1
  unfold Flat
  rwa [List.map_set]
theorem Flat.frozen {e : TypeId} {m : Nat} {w : World} {base g n cap : Nat} {zs : List Int} (h : Flat e m w base (.slice (some ⟨g, 0, none⟩) n cap) n zs) (j : Nat) : w.frozen? ⟨g, j, none⟩ = false := World.ownsRow.frozenAt h j
theorem Flat.cell {e : TypeId} {m : Nat} {w : World} {base g n cap : Nat} {zs : List Int} (h : Flat e m w base (.slice (some ⟨g, 0, none⟩) n cap) n zs) (j : Nat) (hj : j < zs.length) : w.cell? ⟨g, j, none⟩ = some (.int .i64 (zs.getD j 0)) := by
  rw [World.ownsRow.cellAt h j (by rw [← h.len]; exact hj)]
  simp [hj]
end Go.Proofs.YtimkmieohkefiaaGreat

namespace Go.Proofs.YtimkmieohkefiaaGreat
open Go.RowKit

/-- How a struct lies in memory: its cells. -/
structure Rec (α : Type) where
  m : Nat
  pos : 0 < m
  cells : α → List Value
  len : ∀ x, (cells x).length = m
  one : ∀ x, ∀ u ∈ cells x, u.oneCell' = true

/-- The slice from A on reads as the values vs, and lies below block B. -/
def VRow (w : World) (B : Nat) (A : Option Addr) (vs : List Value) : Prop :=
  ∀ j u, vs[j]? = some u → ∃ ad : Addr, A = some ad ∧ ad.block < B ∧ w.cell? (ad.add j) = some u
theorem VRow.keep {w w' : World} {B B' : Nat} {A : Option Addr} {vs : List Value} (h : VRow w B A vs) (hc : ∀ p : Addr, p.block < B → w'.cell? p = w.cell? p) (hB : B ≤ B') : VRow w' B' A vs := fun j u hj => by
  obtain ⟨ad, e, hb, hv⟩ := h j u hj
  exact ⟨ad, e, Nat.lt_of_lt_of_le hb hB, (hc _ (by rw [add_block]; exact hb)).trans hv⟩
theorem VRow.below {w w' : World} {A : Option Addr} {vs : List Value} (h : VRow w w.heap.size A vs) (b : Below w.heap.size w w') : VRow w' w'.heap.size A vs := h.keep (fun _ hp => b.cell hp) b.size
theorem VRow.drewN {w : World} {B : Nat} {A : Option Addr} {vs : List Value} (h : VRow w B A vs) (n : Nat) : VRow (w.drewN n) B A vs := h.keep (fun _ _ => rfl) (Nat.le_refl _)
theorem VRow.nil {w : World} {B : Nat} {A : Option Addr} : VRow w B A [] := fun j u hj => by simp at hj
theorem VRow.take {w : World} {B : Nat} {A : Option Addr} {vs : List Value} (h : VRow w B A vs) (n : Nat) : VRow w B A (vs.take n) := fun j u hj => by
  rw [List.getElem?_take] at hj
  split at hj
  · exact h j u hj
  · cases hj
theorem add_add (a : Addr) (n j : Nat) : (a.add n).add j = a.add (n + j) := by
  unfold Addr.add
  by_cases hj : j = 0
  · subst hj; simp
  · by_cases hn : n = 0
    · subst hn; simp [hj]
    · have : n + j ≠ 0 := by omega
      simp [hj, hn, Nat.add_assoc]
theorem VRow.drop {w : World} {B : Nat} {ad : Addr} {vs : List Value} (h : VRow w B (some ad) vs) (n : Nat) : VRow w B (some (ad.add n)) (vs.drop n) := fun j u hj => by
  rw [List.getElem?_drop] at hj
  obtain ⟨ad', e, hb, hv⟩ := h (n + j) u hj
  injection e with e
  subst e
  exact ⟨_, rfl, by rw [add_block]; exact hb, by rw [add_add]; exact hv⟩

section
variable {α : Type} (R : Rec α)
def Rec.flat (R : Rec α) : List α → List Value
  | [] => []
  | x :: l => R.cells x ++ Rec.flat R l
theorem flatR_len (l : List α) : (R.flat l).length = l.length * R.m := by
  induction l with
  | nil => simp [Rec.flat]
  | cons x l ih => unfold Rec.flat; rw [List.length_append, R.len, ih, List.length_cons, Nat.succ_mul]; omega
theorem flatR_app (l k : List α) : R.flat (l ++ k) = R.flat l ++ R.flat k := by
  induction l with
  | nil => rfl
  | cons x l ih =>
    show R.cells x ++ R.flat (l ++ k) = _
    rw [ih, ← List.append_assoc]; rfl
theorem flatR_at {l : List α} {k : Nat} {x : α} (hk : l[k]? = some x) {j : Nat} {u : Value} (hj : (R.cells x)[j]? = some u) : (R.flat l)[k * R.m + j]? = some u := by
  induction l generalizing k with
  | nil => simp at hk
  | cons y l ih =>
    cases k with
    | zero =>
      simp at hk
      subst hk
      show (R.cells y ++ R.flat l)[0 * R.m + j]? = _
      have : j < (R.cells y).length := (List.getElem?_eq_some_iff.1 hj).1
      rw [Nat.zero_mul, Nat.zero_add, List.getElem?_append_left this]
      exact hj
    | succ k =>
      have g := ih (k := k) (by simpa using hk)
      show (R.cells y ++ R.flat l)[(k + 1) * R.m + j]? = _
      rw [List.getElem?_append_right (by rw [R.len, Nat.succ_mul]; omega), R.len]
      rw [show (k + 1) * R.m + j - R.m = k * R.m + j by rw [Nat.succ_mul]; omega]
      exact g
theorem flatR_take (l : List α) (n : Nat) : R.flat (l.take n) = (R.flat l).take (n * R.m) := by
  induction l generalizing n with
  | nil => simp [Rec.flat]
  | cons x l ih =>
    cases n with
    | zero => simp [Rec.flat]
    | succ n =>
      show R.cells x ++ R.flat (l.take n) = (R.cells x ++ R.flat l).take _
      rw [ih, List.take_append, R.len, List.take_of_length_le (l := R.cells x) (by rw [R.len, Nat.succ_mul]; omega), show (n + 1) * R.m - R.m = n * R.m by rw [Nat.succ_mul]; omega]
theorem flatR_drop (l : List α) (n : Nat) : R.flat (l.drop n) = (R.flat l).drop (n * R.m) := by
  induction l generalizing n with
  | nil => simp [Rec.flat]
  | cons x l ih =>
    cases n with
    | zero => simp
    | succ n =>
      show R.flat (l.drop n) = (R.cells x ++ R.flat l).drop _
      rw [ih, List.drop_append, R.len, List.drop_eq_nil_of_le («as» := R.cells x) (by rw [R.len, Nat.succ_mul]; omega), show (n + 1) * R.m - R.m = n * R.m by rw [Nat.succ_mul]; omega, List.nil_append]
theorem flatR_one (l : List α) : ∀ u ∈ R.flat l, u.oneCell' = true := by
  induction l with
  | nil => intro u hu; cases hu
  | cons x l ih =>
    intro u hu
    rcases List.mem_append.1 hu with hu | hu
    · exact R.one x u hu
    · exact ih u hu

/-- The slice from A on reads as the structs l. -/
structure RRow (w : World) (A : Option Addr) (l : List α) : Prop where
  row : VRow w w.heap.size A (R.flat l)
  len : l.length ≤ maxLen
/-- The cells of element k. -/
structure RCel (w : World) (ad : Addr) (k : Nat) (x : α) : Prop where
  cs : ∀ j u, (R.cells x)[j]? = some u → w.cell? (ad.add (k * R.m + j)) = some u
  lt : ad.block < w.heap.size
variable {R}
theorem RRow.below {w w' : World} {A : Option Addr} {l : List α} (h : RRow R w A l) (b : Below w.heap.size w w') : RRow R w' A l := ⟨h.row.below b, h.len⟩
theorem RRow.drewN {w : World} {A : Option Addr} {l : List α} (h : RRow R w A l) (n : Nat) : RRow R (w.drewN n) A l := ⟨h.row.drewN n, h.len⟩
theorem RRow.alloc {w : World} {A : Option Addr} {l : List α} (h : RRow R w A l) (o : Obj) : RRow R (w.alloc o) A l := h.below ((Below.refl _ _).alloc (Nat.le_refl _) _)
theorem RRow.nil {w : World} {A : Option Addr} : RRow R w A [] := ⟨VRow.nil, Nat.zero_le _⟩
theorem RRow.take {w : World} {A : Option Addr} {l : List α} (h : RRow R w A l) (n : Nat) : RRow R w A (l.take n) :=
  ⟨by rw [flatR_take]; exact h.row.take _, by rw [List.length_take]; have := h.len; omega⟩
theorem RRow.drop {w : World} {ad : Addr} {l : List α} (h : RRow R w (some ad) l) (n : Nat) : RRow R w (some (ad.add (n * R.m))) (l.drop n) :=
  ⟨by rw [flatR_drop]; exact h.row.drop _, by rw [List.length_drop]; have := h.len; omega⟩
theorem RRow.at_ {w : World} {A : Option Addr} {l : List α} (h : RRow R w A l) {k : Nat} {x : α} (hk : l[k]? = some x) : ∃ ad : Addr, A = some ad ∧ RCel R w ad k x := by
  have hp := R.pos
  have hlen := R.len x
  obtain ⟨u, hu⟩ : ∃ u, (R.cells x)[0]? = some u := ⟨_, List.getElem?_eq_getElem (by omega)⟩
  obtain ⟨ad, rfl, hb, _⟩ := h.row _ _ (flatR_at R hk hu)
  refine ⟨ad, rfl, fun j u hj => ?_, hb⟩
  obtain ⟨ad', e, _, hv⟩ := h.row _ _ (flatR_at R hk hj)
  injection e with e
  subst e
  exact hv
theorem RCel.below {w w' : World} {ad : Addr} {k : Nat} {x : α} (h : RCel R w ad k x) (b : Below w.heap.size w w') : RCel R w' ad k x :=
  ⟨fun j u hj => (b.cell (by rw [add_block]; exact h.lt)).trans (h.cs j u hj), Nat.lt_of_lt_of_le h.lt b.size⟩
theorem RCel.drewN {w : World} {ad : Addr} {k : Nat} {x : α} (h : RCel R w ad k x) (n : Nat) : RCel R (w.drewN n) ad k x := ⟨h.cs, h.lt⟩
/-- The first cell, and the others, spelt as the walks ask for them. -/
theorem RCel.first {w : World} {ad : Addr} {k : Nat} {x : α} (h : RCel R w ad k x) {u : Value} (hu : (R.cells x)[0]? = some u) : w.cell? (ad.add (k * R.m)) = some u := h.cs 0 u hu
theorem RCel.next {w : World} {ad : Addr} {k : Nat} {x : α} (h : RCel R w ad k x) (j : Nat) (hj : 0 < j) {u : Value} (hu : (R.cells x)[j]? = some u) : w.cell? ⟨(ad.add (k * R.m)).block, (ad.add (k * R.m)).off + j, none⟩ = some u := by
  have e : ad.add (k * R.m + j) = ⟨(ad.add (k * R.m)).block, (ad.add (k * R.m)).off + j, none⟩ := by
    unfold Addr.add
    by_cases g : k * R.m = 0
    · rw [if_neg (by omega), if_pos g, g, Nat.zero_add]
    · rw [if_neg (by omega), if_neg g, Nat.add_assoc]
  rw [← e]
  exact h.cs j u hu

/-- Block b holds the struct x. -/
structure RBlk (R : Rec α) (w : World) (b : Nat) (x : α) : Prop where
  cs : ∀ j u, (R.cells x)[j]? = some u → w.cell? ⟨b, j, none⟩ = some u
  lt : b < w.heap.size
theorem RBlk.below {w w' : World} {b : Nat} {x : α} (h : RBlk R w b x) (k : Below w.heap.size w w') : RBlk R w' b x := ⟨fun j u hj => (k.cell (p := ⟨b, j, none⟩) h.lt).trans (h.cs j u hj), Nat.lt_of_lt_of_le h.lt k.size⟩
theorem RBlk.moves {m : Nat} {w w' : World} {b : Nat} {x : α} (h : RBlk R w b x) (k : Moves m w w') (hm : b ≠ m) : RBlk R w' b x := ⟨fun j u hj => (k.cell (p := ⟨b, j, none⟩) h.lt hm).trans (h.cs j u hj), Nat.lt_of_lt_of_le h.lt k.size⟩
theorem RBlk.alloc {w : World} {b : Nat} {x : α} (h : RBlk R w b x) (o : Obj) : RBlk R (w.alloc o) b x := h.below ((Below.refl _ _).alloc (Nat.le_refl _) _)
theorem RBlk.drewN {w : World} {b : Nat} {x : α} (h : RBlk R w b x) (n : Nat) : RBlk R (w.drewN n) b x := ⟨h.cs, h.lt⟩
theorem RBlk.new {w : World} {x : α} {T : TypeId} (b : Nat) (hb : b = w.heap.size) : RBlk R (w.alloc (.cells (R.cells x).toArray T)) b x := by
  subst hb; exact ⟨fun j u hj => by rw [cell_new]; simpa using hj, by simp⟩
theorem RBlk.grown {w w' : World} {b : Nat} {x : α} {row : Option Nat} (h : RBlk R w b x) (g : w.grownBy w' row) (hn : row ≠ some b) : RBlk R w' b x :=
  ⟨fun j u hj => g.cell (h.cs j u hj) (fun e => hn e.symm), Nat.lt_of_lt_of_le h.lt g.size⟩

/-- The slice v of structs is the call's own. -/
def ROwn (R : Rec α) (T : TypeId) (w : World) (base : Nat) (v : Value) (l : List α) : Prop := w.ownsRow base T R.m v l.length (R.flat l)
theorem ROwn.nil {T : TypeId} {w : World} {base : Nat} : ROwn R T w base (.slice none 0 0) [] := ⟨by simp [Rec.flat], Or.inl ⟨rfl, rfl⟩⟩
theorem ROwn.drewN {T : TypeId} {w : World} {base : Nat} {v : Value} {l : List α} (h : ROwn R T w base v l) (n : Nat) : ROwn R T (w.drewN n) base v l := h
theorem ROwn.alloc {T : TypeId} {w : World} {base : Nat} {v : Value} {l : List α} (h : ROwn R T w base v l) (o : Obj) : ROwn R T (w.alloc o) base v l := World.ownsRow.alloc h o
theorem ROwn.base {T : TypeId} {w : World} {base base' : Nat} {v : Value} {l : List α} (h : ROwn R T w base v l) (hb : base' ≤ base) : ROwn R T w base' v l := by
  refine ⟨h.1, ?_⟩
  rcases h.2 with g | ⟨g, cap, cur, e1, e2, e3⟩
  · exact Or.inl g
  · exact Or.inr ⟨g, cap, cur, e1, Nat.le_trans hb e2, e3⟩
theorem ROwn.below {T : TypeId} {w w' : World} {base : Nat} {v : Value} {l : List α} (h : ROwn R T w base v l) (b : Below w.heap.size w w') : ROwn R T w' base v l := by
  refine ⟨h.1, ?_⟩
  rcases h.2 with g | ⟨g, cap, cur, e1, e2, e3, e4⟩
  · exact Or.inl g
  · exact Or.inr ⟨g, cap, cur, e1, e2, (b.block g (Array.getElem?_eq_some_iff.1 e3).1).trans e3, e4⟩
theorem ROwn.moves {T : TypeId} {m : Nat} {w w' : World} {base : Nat} {v : Value} {l : List α} (h : ROwn R T w base v l) (b : Moves m w w') (hm : m < base) : ROwn R T w' base v l := by
  refine ⟨h.1, ?_⟩
  rcases h.2 with g | ⟨g, cap, cur, e1, e2, e3, e4⟩
  · exact Or.inl g
  · exact Or.inr ⟨g, cap, cur, e1, e2, (b.block g (Array.getElem?_eq_some_iff.1 e3).1 (by omega)).trans e3, e4⟩
theorem ROwn.kept {T : TypeId} {w w' : World} {base : Nat} {v : Value} {l : List α} {row : Option Nat} (h : ROwn R T w base v l) (hg : w.grownBy w' row) (hne : v.ownBlock = none ∨ v.ownBlock ≠ row) : ROwn R T w' base v l := World.ownsRow.kept h hg hne
theorem ROwn.block {T : TypeId} {w : World} {base : Nat} {v : Value} {l : List α} (h : ROwn R T w base v l) {g : Nat} (hg : v.ownBlock = some g) : base ≤ g ∧ g < w.heap.size := by
  rcases h.2 with ⟨rfl, _⟩ | ⟨g', cap, cur, rfl, e2, e3, _⟩
  · simp [Value.ownBlock] at hg
  · simp [Value.ownBlock] at hg
    subst hg
    exact ⟨e2, (Array.getElem?_eq_some_iff.1 e3).1⟩
theorem ROwn.app {T : TypeId} {w : World} {base n k : Nat} {v : Value} {l m : List α} (h : w.ownsRow base T R.m v (n + k) (R.flat l ++ R.flat m)) (hn : n = l.length) (hk : k = m.length) : ROwn R T w base v (l ++ m) := by
  subst hn; subst hk
  unfold ROwn
  rw [List.length_append, flatR_app]
  exact h
/-- What it looks like. -/
theorem ROwn.full {T : TypeId} {w : World} {base : Nat} {v : Value} {l : List α} (h : ROwn R T w base v l) :
    ∃ A c, v = .slice A l.length c ∧ RRow R w A l ∧ l.length ≤ c ∧ c ≤ maxLen ∧ (0 < l.length → ∃ g, A = some ⟨g, 0, none⟩ ∧ base ≤ g ∧ g < w.heap.size) ∧ (A = none → l.length = 0 ∧ c = 0) := by
  rcases h.2 with ⟨rfl, hn⟩ | ⟨g, cap, cur, rfl, e2, e3, e4, e5, e6, e7⟩
  · have : l = [] := List.length_eq_zero_iff.1 hn
    subst this
    exact ⟨none, 0, rfl, RRow.nil, Nat.le_refl _, by decide, fun h => absurd h (by simp), fun _ => ⟨rfl, rfl⟩⟩
  · have hg : g < w.heap.size := (Array.getElem?_eq_some_iff.1 e3).1
    refine ⟨_, cap, rfl, ⟨fun j u hj => ⟨_, rfl, hg, ?_⟩, by omega⟩, e4, e5, fun _ => ⟨g, rfl, e2, hg⟩, fun e => by cases e⟩
    rw [add_own]
    have hlt : j < (R.flat l).length := (List.getElem?_eq_some_iff.1 hj).1
    have := World.ownsRow.cellAt h j (by rw [← flatR_len]; exact hlt)
    rw [this]
    exact hj
theorem ROwn.slice {T : TypeId} {w : World} {base : Nat} {v : Value} {l : List α} (h : ROwn R T w base v l) : ∃ A c, v = .slice A l.length c ∧ RRow R w A l := by
  obtain ⟨A, c, e, H, _⟩ := h.full
  exact ⟨A, c, e, H⟩
theorem ROwn.frozen {T : TypeId} {w : World} {base g n cap : Nat} {l : List α} (h : ROwn R T w base (.slice (some ⟨g, 0, none⟩) n cap) l) (hn : n = l.length) (j : Nat) : w.frozen? ⟨g, j, none⟩ = false := by
  subst hn; exact World.ownsRow.frozenAt h j
/-- The cells of structs that have just been laid. -/
theorem newR {W : World} {T : TypeId} {l : List α} : ∀ j u, (R.flat l)[j]? = some u → (W.alloc (.cells (R.flat l).toArray T)).cell? ((⟨W.heap.size, 0, none⟩ : Addr).add j) = some u := fun j u hj => by
  rw [add_own, cell_new]; simpa using hj
end
theorem Moves.grown {m : Nat} {a b c : World} {row : Option Nat} (h : Moves m a b) (g : b.grownBy c row) (hr : ∀ k, row = some k → a.heap.size ≤ k) : Moves m a c :=
  ⟨g.os.trans h.os, g.tape.trans h.tape, g.output.trans h.output, Nat.le_trans h.size g.size, fun i hi hm => (g.block i (Nat.lt_of_lt_of_le hi h.size) (fun e => by have := hr i e.symm; omega)).trans (h.block i hi hm)⟩
theorem Own.moves {k : IntKind} {e : TypeId} {m : Nat} {w w' : World} {base : Nat} {v : Value} {zs : List Int} (h : Own k e w base v zs) (b : Moves m w w') (hm : m < base) : Own k e w' base v zs := by
  refine ⟨h.1, ?_⟩
  rcases h.2 with g | ⟨g, cap, cur, e1, e2, e3, e4⟩
  · exact Or.inl g
  · exact Or.inr ⟨g, cap, cur, e1, e2, (b.block g (Array.getElem?_eq_some_iff.1 e3).1 (by omega)).trans e3, e4⟩
theorem IsMk.grown {w w' : World} {m N : Nat} {row : Option Nat} (h : IsMk w m N) (g : w.grownBy w' row) (hr : ∀ k, row = some k → m < k) : IsMk w' m N :=
  h.stays ((Below.refl (m + 1) w).grown g h.lt (fun k e => hr k e))
theorem getD_mem {zs : List Int} {k : Nat} (hk : k < zs.length) : zs.getD k 0 ∈ zs := by
  rw [List.getD_eq_getElem?_getD, List.getElem?_eq_getElem hk]; exact List.getElem_mem hk
/-- The maker of a list that came in. -/
theorem mk_row {w : World} {A : Option Addr} {c : Nat} {l : List Int} {T : TypeId} (h : Row .i64 w w.heap.size A l) (hm : l.length ≤ maxLen) (hw : ∀ n ∈ l, (Lit.int .i64 n).wf = true) : IsMk (w.alloc (.cells #[.slice A l.length c, .int .i64 0] T)) w.heap.size 0 := by
  have e : (w.alloc (.cells #[.slice A l.length c, .int .i64 0] T)).heap[w.heap.size]? = some (.cells #[.slice A l.length c, .int .i64 0] T) := by
    show (w.heap.push _)[w.heap.size]? = _
    rw [Array.getElem?_push, if_pos rfl]
  refine ⟨by simp, ⟨0, Nat.le_refl _, by rw [cell_new]; rfl⟩, ?_, A, l.length, c, by rw [cell_new]; rfl, hm, ?_⟩
  · unfold World.frozen?; rw [e]; rfl
  · rcases Nat.eq_zero_or_pos l.length with h0 | h0
    · exact Or.inl h0
    · obtain ⟨ad, rfl, hb, h1⟩ := h 0 h0
      obtain ⟨b, off, spot⟩ := ad
      have hs : spot = none := by simpa [Addr.add] using World.cell?_spot h1
      subst hs
      refine Or.inr ⟨b, off, rfl, hb, fun i hi => ⟨l.getD i 0, ?_, bounds_i64 (hw _ (getD_mem hi))⟩⟩
      obtain ⟨ad', e', _, hc⟩ := h i hi
      have ea : (⟨b, off, none⟩ : Addr) = ad' := by injection e'
      subst ea
      rw [((Below.refl w.heap.size w).alloc (Nat.le_refl _) _).cell (p := ⟨b, off + i, none⟩) hb]
      by_cases i0 : i = 0
      · subst i0; simpa [Addr.add] using hc
      · simpa [Addr.add, i0] using hc
end Go.Proofs.YtimkmieohkefiaaGreat

namespace Go.Proofs.YtimkmieohkefiaaGreat
open Go.RowKit

/-- Train, block, round, length. -/
abbrev It := Int × Int × Int × Int
abbrev it0 : It := (0, 0, 0, 0)
def okI (p : It) : Prop := (0 ≤ p.1 ∧ p.1 ≤ 15) ∧ (0 ≤ p.2.1 ∧ p.2.1 ≤ 31) ∧ (0 ≤ p.2.2.1 ∧ p.2.2.1 ≤ 12) ∧ (1 ≤ p.2.2.2 ∧ p.2.2.2 ≤ 400)
instance (p : It) : Decidable (okI p) := by unfold okI; infer_instance
def flatI : List It → List Int
  | [] => []
  | p :: l => p.1 :: p.2.1 :: p.2.2.1 :: p.2.2.2 :: flatI l
theorem flatI_len (l : List It) : (flatI l).length = l.length * 4 := by
  induction l with
  | nil => rfl
  | cons p l ih => unfold flatI; simp only [List.length_cons]; omega
theorem flatI_app (l m : List It) : flatI (l ++ m) = flatI l ++ flatI m := by
  induction l with
  | nil => rfl
  | cons p l ih =>
    show p.1 :: p.2.1 :: p.2.2.1 :: p.2.2.2 :: flatI (l ++ m) = _
    rw [ih]; rfl
theorem flatI_at (l : List It) (k : Nat) : (flatI l).getD (k * 4) 0 = (l.getD k it0).1 ∧ (flatI l).getD (k * 4 + 1) 0 = (l.getD k it0).2.1 ∧ (flatI l).getD (k * 4 + 2) 0 = (l.getD k it0).2.2.1 ∧ (flatI l).getD (k * 4 + 3) 0 = (l.getD k it0).2.2.2 := by
  induction l generalizing k with
  | nil => exact ⟨rfl, rfl, rfl, rfl⟩
  | cons p l ih =>
    cases k with
    | zero => exact ⟨rfl, rfl, rfl, rfl⟩
    | succ k =>
      have := ih k
      rw [show (k + 1) * 4 = k * 4 + 4 by omega]
      exact this
theorem getD_memI {l : List It} {k : Nat} (hk : k < l.length) : l.getD k it0 ∈ l := by
  rw [List.getD_eq_getElem?_getD, List.getElem?_eq_getElem hk]; exact List.getElem_mem hk
/-- The slice from A on reads as the items l. -/
structure IRow (w : World) (A : Option Addr) (l : List It) : Prop where
  row : Row .i64 w w.heap.size A (flatI l)
  len : l.length ≤ maxLen
theorem IRow.below {w w' : World} {A : Option Addr} {l : List It} (h : IRow w A l) (b : Below w.heap.size w w') : IRow w' A l := ⟨h.row.below b, h.len⟩
theorem IRow.drewN {w : World} {A : Option Addr} {l : List It} (h : IRow w A l) (n : Nat) : IRow (w.drewN n) A l := ⟨h.row, h.len⟩
theorem IRow.nil {w : World} {A : Option Addr} : IRow w A [] := ⟨Row.nil, by decide⟩
/-- The cells of one element. -/
structure ICel (w : World) (ad : Addr) (k : Nat) (p : It) : Prop where
  c0 : w.cell? (ad.add (k * 4)) = some (.int .i64 p.1)
  c1 : w.cell? (ad.add (k * 4 + 1)) = some (.int .i64 p.2.1)
  c2 : w.cell? (ad.add (k * 4 + 2)) = some (.int .i64 p.2.2.1)
  c3 : w.cell? (ad.add (k * 4 + 3)) = some (.int .i64 p.2.2.2)
  lt : ad.block < w.heap.size
theorem IRow.at_ {w : World} {A : Option Addr} {l : List It} (h : IRow w A l) (k : Nat) (hk : k < l.length) : ∃ ad : Addr, A = some ad ∧ ICel w ad k (l.getD k it0) := by
  have hl := flatI_len l
  obtain ⟨e0, e1, e2, e3⟩ := flatI_at l k
  obtain ⟨ad, rfl, hb, h0⟩ := h.row (k * 4) (by omega)
  obtain ⟨ad1, g1, _, h1⟩ := h.row (k * 4 + 1) (by omega)
  obtain ⟨ad2, g2, _, h2⟩ := h.row (k * 4 + 2) (by omega)
  obtain ⟨ad3, g3, _, h3⟩ := h.row (k * 4 + 3) (by omega)
  obtain rfl : ad = ad1 := by injection g1
  obtain rfl : ad = ad2 := by injection g2
  obtain rfl : ad = ad3 := by injection g3
  rw [e0] at h0; rw [e1] at h1; rw [e2] at h2; rw [e3] at h3
  exact ⟨ad, rfl, h0, h1, h2, h3, hb⟩
theorem ICel.below {w w' : World} {ad : Addr} {k : Nat} {p : It} (h : ICel w ad k p) (b : Below w.heap.size w w') : ICel w' ad k p :=
  ⟨(b.cell (by rw [add_block]; exact h.lt)).trans h.c0, (b.cell (by rw [add_block]; exact h.lt)).trans h.c1, (b.cell (by rw [add_block]; exact h.lt)).trans h.c2, (b.cell (by rw [add_block]; exact h.lt)).trans h.c3, Nat.lt_of_lt_of_le h.lt b.size⟩
/-- The cells, spelt as the walks ask for them. -/
theorem ICel.spelt {w : World} {ad : Addr} {k : Nat} {p : It} (h : ICel w ad k p) :
    w.cell? (ad.add (k * 4)) = some (.int .i64 p.1) ∧ w.cell? ⟨(ad.add (k * 4)).block, (ad.add (k * 4)).off + 1, none⟩ = some (.int .i64 p.2.1) ∧ w.cell? ⟨(ad.add (k * 4)).block, (ad.add (k * 4)).off + 2, none⟩ = some (.int .i64 p.2.2.1) ∧ w.cell? ⟨(ad.add (k * 4)).block, (ad.add (k * 4)).off + 3, none⟩ = some (.int .i64 p.2.2.2) := by
  have e : ∀ j, 0 < j → ad.add (k * 4 + j) = ⟨(ad.add (k * 4)).block, (ad.add (k * 4)).off + j, none⟩ := fun j hj => by
    unfold Addr.add
    by_cases g : k * 4 = 0
    · rw [if_neg (by omega), if_pos g, g, Nat.zero_add]
    · rw [if_neg (by omega), if_neg g, Nat.add_assoc]
  exact ⟨h.c0, (by rw [← e 1 (by decide)]; exact h.c1), (by rw [← e 2 (by decide)]; exact h.c2), (by rw [← e 3 (by decide)]; exact h.c3)⟩
theorem ICel.zero {w : World} {ad : Addr} {p : It} (h : ICel w ad 0 p) :
    w.cell? ad = some (.int .i64 p.1) ∧ w.cell? ⟨ad.block, ad.off + 1, none⟩ = some (.int .i64 p.2.1) ∧ w.cell? ⟨ad.block, ad.off + 2, none⟩ = some (.int .i64 p.2.2.1) ∧ w.cell? ⟨ad.block, ad.off + 3, none⟩ = some (.int .i64 p.2.2.2) := by
  have e : ad.add 0 = ad := by unfold Addr.add; rw [if_pos rfl]
  have := h.spelt
  rwa [Nat.zero_mul, e] at this
/-- Block b holds the item p. -/
structure IPl (w : World) (b : Nat) (p : It) : Prop where
  c0 : w.cell? ⟨b, 0, none⟩ = some (.int .i64 p.1)
  c1 : w.cell? ⟨b, 1, none⟩ = some (.int .i64 p.2.1)
  c2 : w.cell? ⟨b, 2, none⟩ = some (.int .i64 p.2.2.1)
  c3 : w.cell? ⟨b, 3, none⟩ = some (.int .i64 p.2.2.2)
  lt : b < w.heap.size
theorem IPl.below {w w' : World} {b : Nat} {p : It} (h : IPl w b p) (k : Below w.heap.size w w') : IPl w' b p :=
  ⟨(k.cell (p := ⟨b, 0, none⟩) h.lt).trans h.c0, (k.cell (p := ⟨b, 1, none⟩) h.lt).trans h.c1, (k.cell (p := ⟨b, 2, none⟩) h.lt).trans h.c2, (k.cell (p := ⟨b, 3, none⟩) h.lt).trans h.c3, Nat.lt_of_lt_of_le h.lt k.size⟩
theorem IPl.new {w : World} {p : It} {T : TypeId} (b : Nat) (hb : b = w.heap.size) : IPl (w.alloc (.cells #[.int .i64 p.1, .int .i64 p.2.1, .int .i64 p.2.2.1, .int .i64 p.2.2.2] T)) b p := by
  subst hb; exact ⟨by rw [cell_new]; rfl, by rw [cell_new]; rfl, by rw [cell_new]; rfl, by rw [cell_new]; rfl, by simp⟩
theorem IPl.alloc {w : World} {b : Nat} {p : It} (h : IPl w b p) (o : Obj) : IPl (w.alloc o) b p := h.below ((Below.refl _ _).alloc (Nat.le_refl _) _)
theorem IPl.drewN {w : World} {b : Nat} {p : It} (h : IPl w b p) (n : Nat) : IPl (w.drewN n) b p := ⟨h.c0, h.c1, h.c2, h.c3, h.lt⟩
theorem IPl.put4 {w : World} {b : Nat} {p : It} {u v z y : Value} (h0 : w.cell? ⟨b, 0, none⟩ = some u) (h1 : w.cell? ⟨b, 1, none⟩ = some v) (h2 : w.cell? ⟨b, 2, none⟩ = some z) (h3 : w.cell? ⟨b, 3, none⟩ = some y) (hl : b < w.heap.size) :
    IPl ((((w.setCell ⟨b, 0, none⟩ (.int .i64 p.1)).setCell ⟨b, 1, none⟩ (.int .i64 p.2.1)).setCell ⟨b, 2, none⟩ (.int .i64 p.2.2.1)).setCell ⟨b, 3, none⟩ (.int .i64 p.2.2.2)) b p := by
  have g1 : (w.setCell ⟨b, 0, none⟩ (.int .i64 p.1)).cell? ⟨b, 1, none⟩ = some v := by rw [World.cell?_setCell_other _ _ _ _ (by simp)]; exact h1
  have g2 : ((w.setCell ⟨b, 0, none⟩ (.int .i64 p.1)).setCell ⟨b, 1, none⟩ (.int .i64 p.2.1)).cell? ⟨b, 2, none⟩ = some z := by rw [World.cell?_setCell_other _ _ _ _ (by simp), World.cell?_setCell_other _ _ _ _ (by simp)]; exact h2
  have g3 : (((w.setCell ⟨b, 0, none⟩ (.int .i64 p.1)).setCell ⟨b, 1, none⟩ (.int .i64 p.2.1)).setCell ⟨b, 2, none⟩ (.int .i64 p.2.2.1)).cell? ⟨b, 3, none⟩ = some y := by rw [World.cell?_setCell_other _ _ _ _ (by simp), World.cell?_setCell_other _ _ _ _ (by simp), World.cell?_setCell_other _ _ _ _ (by simp)]; exact h3
  refine ⟨?_, ?_, ?_, World.cell?_setCell_same _ _ _ g3, by rw [World.size_setCell, World.size_setCell, World.size_setCell, World.size_setCell]; exact hl⟩
  · rw [World.cell?_setCell_other _ _ _ _ (by simp), World.cell?_setCell_other _ _ _ _ (by simp), World.cell?_setCell_other _ _ _ _ (by simp)]; exact World.cell?_setCell_same _ _ _ h0
  · rw [World.cell?_setCell_other _ _ _ _ (by simp), World.cell?_setCell_other _ _ _ _ (by simp)]; exact World.cell?_setCell_same _ _ _ g1
  · rw [World.cell?_setCell_other _ _ _ _ (by simp)]; exact World.cell?_setCell_same _ _ _ g2
/-- The slice v of items is the call's own. -/
def IOwn (T : TypeId) (w : World) (base : Nat) (v : Value) (l : List It) : Prop := Flat T 4 w base v l.length (flatI l)
theorem IOwn.nil {T : TypeId} {w : World} {base : Nat} : IOwn T w base (.slice none 0 0) [] := Flat.nil
theorem IOwn.drewN {T : TypeId} {w : World} {base : Nat} {v : Value} {l : List It} (h : IOwn T w base v l) (n : Nat) : IOwn T (w.drewN n) base v l := h
theorem IOwn.alloc {T : TypeId} {w : World} {base : Nat} {v : Value} {l : List It} (h : IOwn T w base v l) (o : Obj) : IOwn T (w.alloc o) base v l := Flat.alloc h o
theorem IOwn.below {T : TypeId} {w w' : World} {base : Nat} {v : Value} {l : List It} (h : IOwn T w base v l) (b : Below w.heap.size w w') : IOwn T w' base v l := Flat.below h b
theorem IOwn.base {T : TypeId} {w : World} {base base' : Nat} {v : Value} {l : List It} (h : IOwn T w base v l) (hb : base' ≤ base) : IOwn T w base' v l := Flat.base h hb
theorem IOwn.kept {T : TypeId} {w w' : World} {base : Nat} {v : Value} {l : List It} {row : Option Nat} (h : IOwn T w base v l) (hg : w.grownBy w' row) (hne : v.ownBlock = none ∨ v.ownBlock ≠ row) : IOwn T w' base v l := Flat.kept h hg hne
theorem IOwn.block {T : TypeId} {w : World} {base : Nat} {v : Value} {l : List It} (h : IOwn T w base v l) {g : Nat} (hg : v.ownBlock = some g) : base ≤ g ∧ g < w.heap.size := Flat.block h hg
theorem IOwn.app {T : TypeId} {w : World} {base n k : Nat} {v : Value} {l m : List It} (h : w.ownsRow base T 4 v (n + k) ((flatI l).map (Value.int .i64) ++ (flatI m).map (Value.int .i64))) (hn : n = l.length) (hk : k = m.length) : IOwn T w base v (l ++ m) := by
  subst hn; subst hk
  unfold IOwn
  rw [List.length_append, flatI_app]
  exact Flat.app h
theorem IOwn.full {T : TypeId} {w : World} {base : Nat} {v : Value} {l : List It} (h : IOwn T w base v l) :
    ∃ A c, v = .slice A l.length c ∧ IRow w A l ∧ l.length ≤ c ∧ c ≤ maxLen ∧ (0 < l.length → ∃ g, A = some ⟨g, 0, none⟩ ∧ base ≤ g ∧ g < w.heap.size) := by
  obtain ⟨A, c, rfl, R, h1, h2, h3⟩ := Flat.slice h
  refine ⟨A, c, rfl, ⟨R, h2⟩, h1, ?_, h3⟩
  rcases h.2 with ⟨e, _⟩ | ⟨g, cap, cur, e, _, _, _, h5, _⟩
  · injection e with e1 e2 e3; rw [e3]; decide
  · injection e with e1 e2 e3; rw [e3]; exact h5
theorem IOwn.irow {T : TypeId} {w : World} {base n c : Nat} {A : Option Addr} {l : List It} (h : IOwn T w base (.slice A n c) l) : IRow w A l := by
  obtain ⟨A', c', e, R, _⟩ := h.full
  injection e with e1
  rw [e1]; exact R
theorem Flat.moves {e : TypeId} {k m : Nat} {w w' : World} {base : Nat} {v : Value} {n : Nat} {zs : List Int} (h : Flat e k w base v n zs) (b : Moves m w w') (hm : m < base) : Flat e k w' base v n zs := by
  refine ⟨h.1, ?_⟩
  rcases h.2 with g | ⟨g, cap, cur, e1, e2, e3, e4⟩
  · exact Or.inl g
  · exact Or.inr ⟨g, cap, cur, e1, e2, (b.block g (Array.getElem?_eq_some_iff.1 e3).1 (by omega)).trans e3, e4⟩
theorem IOwn.moves {T : TypeId} {m : Nat} {w w' : World} {base : Nat} {v : Value} {l : List It} (h : IOwn T w base v l) (b : Moves m w w') (hm : m < base) : IOwn T w' base v l := Flat.moves h b hm
end Go.Proofs.YtimkmieohkefiaaGreat

namespace Go.Proofs.YtimkmieohkefiaaGreat
open Go.RowKit

/-- The train and the block of item x. -/
def trn (l : List It) (x : Nat) : Int := (l.getD x it0).1
def blk (l : List It) (x : Nat) : Int := (l.getD x it0).2.1
/-- How x comes before y: 0 not, 1 weakly, 2 strictly. -/
def rel (l : List It) (x y : Nat) : Int := if trn l x ≠ trn l y ∨ blk l y ≤ blk l x then 0 else if y < x then 2 else 1
theorem rel_cases (l : List It) (x y : Nat) : rel l x y = 0 ∨ rel l x y = 1 ∨ rel l x y = 2 := by
  unfold rel; split
  · exact Or.inl rfl
  · split
    · exact Or.inr (Or.inr rfl)
    · exact Or.inr (Or.inl rfl)
theorem rel_pos {l : List It} {x y : Nat} (h : rel l x y ≠ 0) : trn l x = trn l y ∧ blk l x < blk l y := by
  unfold rel at h; split at h
  · exact absurd rfl h
  · rename_i g
    refine ⟨Decidable.byContradiction fun e => g (Or.inl e), ?_⟩
    exact Int.not_le.1 fun e => g (Or.inr e)
theorem rel_ge {l : List It} {x y : Nat} (h : blk l y ≤ blk l x) : rel l x y = 0 := if_pos (Or.inr h)
/-- The level that y needs because of x. -/
def via (l : List It) (v : List Int) (x y : Nat) : Int := if rel l x y = 2 then v.getD x 0 + 1 else if rel l x y = 1 then v.getD x 0 else 0
theorem via_zero {l : List It} {v : List Int} {x y : Nat} (h : rel l x y = 0) : via l v x y = 0 := by
  unfold via; rw [if_neg (by omega), if_neg (by omega)]
theorem via_pos {l : List It} {v : List Int} {x y : Nat} (h : rel l x y ≠ 0) : via l v x y = v.getD x 0 + (rel l x y - 1) := by
  unfold via
  rcases rel_cases l x y with e | e | e
  · exact absurd e h
  · rw [if_neg (by omega), if_pos e, e]; omega
  · rw [if_pos e, e]; omega
/-- What is read of the levels lies before y. -/
theorem via_same {l : List It} {v v' : List Int} {x y : Nat} (h : rel l x y ≠ 0 → v.getD x 0 = v'.getD x 0) : via l v x y = via l v' x y := by
  by_cases e : rel l x y = 0
  · rw [via_zero e, via_zero e]
  · rw [via_pos e, via_pos e, h e]
/-- M is the greatest of 0 and f at those of which p holds. -/
structure IsMaxP (p : Nat → Prop) (f : Nat → Int) (M : Int) : Prop where
  pos : 0 ≤ M
  le : ∀ x, p x → f x ≤ M
  hit : M = 0 ∨ ∃ x, p x ∧ f x = M
theorem IsMaxP.uniq {p : Nat → Prop} {f g : Nat → Int} {M N : Int} (h : IsMaxP p f M) (k : IsMaxP p g N) (e : ∀ x, p x → f x = g x) : M = N := by
  have h1 := h.pos; have k1 := k.pos
  have a : M ≤ N := by
    rcases h.hit with e0 | ⟨x, hx, hf⟩
    · omega
    · have := k.le x hx; rw [← e x hx] at this; omega
  have b : N ≤ M := by
    rcases k.hit with e0 | ⟨x, hx, hf⟩
    · omega
    · have := h.le x hx; rw [e x hx] at this; omega
  omega
theorem IsMaxP.start (f : Nat → Int) : IsMaxP (fun x => x < 0) f 0 := ⟨Int.le_refl _, fun x h => absurd h (Nat.not_lt_zero x), Or.inl rfl⟩
theorem IsMaxP.congr {p q : Nat → Prop} {f g : Nat → Int} {M : Int} (h : IsMaxP p f M) (hp : ∀ x, p x ↔ q x) (hf : ∀ x, q x → f x = g x) : IsMaxP q g M := by
  refine ⟨h.pos, fun x hx => by rw [← hf x hx]; exact h.le x ((hp x).2 hx), ?_⟩
  rcases h.hit with e | ⟨x, hx, e⟩
  · exact Or.inl e
  · exact Or.inr ⟨x, (hp x).1 hx, by rw [← hf x ((hp x).1 hx)]; exact e⟩
/-- One more is looked at. -/
theorem IsMaxP.more {p q : Nat → Prop} {f : Nat → Int} {M N : Int} {y : Nat} (h : IsMaxP p f M) (hq : ∀ x, q x ↔ p x ∨ x = y) (hN : N = if M < f y then f y else M) : IsMaxP q f N := by
  have hp := h.pos
  refine ⟨?_, fun x hx => ?_, ?_⟩
  · rw [hN]; split <;> omega
  · rcases (hq x).1 hx with g | rfl
    · have := h.le x g; rw [hN]; split <;> omega
    · rw [hN]; split <;> omega
  · rw [hN]; split
    · exact Or.inr ⟨y, (hq y).2 (Or.inr rfl), rfl⟩
    · rcases h.hit with e | ⟨x, hx, e⟩
      · exact Or.inl e
      · exact Or.inr ⟨x, (hq x).2 (Or.inl hx), e⟩
/-- More are looked at, of which f is not above 0. -/
theorem IsMaxP.wide {p q : Nat → Prop} {f : Nat → Int} {M : Int} (h : IsMaxP p f M) (hq : ∀ x, p x → q x) (hn : ∀ x, q x → p x ∨ f x ≤ 0) : IsMaxP q f M := by
  refine ⟨h.pos, fun x hx => ?_, ?_⟩
  · rcases hn x hx with g | g
    · exact h.le x g
    · have := h.pos; omega
  · rcases h.hit with e | ⟨x, hx, e⟩
    · exact Or.inl e
    · exact Or.inr ⟨x, hq x hx, e⟩
/-- v are the levels of l. -/
structure Lev (l : List It) (v : List Int) : Prop where
  len : v.length = l.length
  max : ∀ y, y < l.length → IsMaxP (fun x => x < l.length) (fun x => via l v x y) (v.getD y 0)
/-- All blocks are from 0 to 31. -/
def BlkOk (l : List It) : Prop := ∀ y, y < l.length → 0 ≤ blk l y ∧ blk l y ≤ 31
theorem Lev.bound {l : List It} {v : List Int} (hb : BlkOk l) (h : Lev l v) : ∀ y, y < l.length → 0 ≤ v.getD y 0 ∧ v.getD y 0 ≤ blk l y := by
  have key : ∀ (n : Nat) (y : Nat), y < l.length → blk l y < n → v.getD y 0 ≤ blk l y := by
    intro n
    induction n with
    | zero => intro y hy hn; have := (hb y hy).1; omega
    | succ n ih =>
      intro y hy hn
      have hy0 := (hb y hy).1
      rcases (h.max y hy).hit with e | ⟨x, hx, e⟩
      · omega
      · by_cases g : rel l x y = 0
        · have := via_zero (v := v) g; have e' : via l v x y = v.getD y 0 := e; omega
        · have e' : via l v x y = v.getD y 0 := e
          rw [via_pos g] at e'
          have h1 := (rel_pos g).2
          have h2 := ih x hx (by omega)
          rcases rel_cases l x y with c | c | c <;> omega
  intro y hy
  exact ⟨(h.max y hy).pos, key 32 y hy (by have := (hb y hy).2; omega)⟩
/-- y has the greatest level, the first of several. -/
structure IsTop (v : List Int) (y : Nat) : Prop where
  lt : y < v.length
  le : ∀ x, x < v.length → v.getD x 0 ≤ v.getD y 0
  first : ∀ x, x < y → v.getD x 0 < v.getD y 0
theorem IsTop.uniq {v : List Int} {x y : Nat} (h : IsTop v x) (k : IsTop v y) : x = y := by
  rcases Nat.lt_trichotomy x y with g | g | g
  · have := k.first x g; have := h.le y k.lt; omega
  · exact g
  · have := h.first y g; have := k.le x h.lt; omega
/-- The chain that is found by going back from y. -/
inductive IsBack (l : List It) (v : List Int) : Nat → List Nat → Prop
  | one (y : Nat) : v.getD y 0 ≤ 0 → IsBack l v y [y]
  | step (y x : Nat) (c : List Nat) : 0 < v.getD y 0 → x < l.length → via l v x y = v.getD y 0 → (∀ z, z < x → via l v z y ≠ v.getD y 0) → IsBack l v x c → IsBack l v y (c ++ [y])
theorem IsBack.uniq {l : List It} {v : List Int} {y : Nat} {c d : List Nat} (h : IsBack l v y c) (k : IsBack l v y d) : c = d := by
  induction h generalizing d with
  | one y h =>
    cases k with
    | one _ _ => rfl
    | step _ x c h0 h1 h2 h3 h4 => omega
  | step y x c h0 h1 h2 h3 h4 ih =>
    cases k with
    | one _ g => omega
    | step _ x' c' g0 g1 g2 g3 g4 =>
      have : x = x' := by
        rcases Nat.lt_trichotomy x x' with g | g | g
        · exact absurd h2 (g3 x g)
        · exact g
        · exact absurd g2 (h3 x' g)
      subst this
      rw [ih g4]
theorem IsBack.last {l : List It} {v : List Int} {y : Nat} {c : List Nat} (h : IsBack l v y c) : ∃ d, c = d ++ [y] := by
  cases h with
  | one _ _ => exact ⟨[], rfl⟩
  | step _ x d _ _ _ _ _ => exact ⟨d, rfl⟩
theorem IsBack.mem {l : List It} {v : List Int} {y : Nat} {c : List Nat} (h : IsBack l v y c) (hy : y < l.length) : ∀ x ∈ c, x < l.length := by
  induction h with
  | one y h => intro x hx; rw [List.mem_singleton] at hx; omega
  | step y x c h0 h1 h2 h3 h4 ih =>
    intro z hz
    rcases List.mem_append.1 hz with g | g
    · exact ih h1 z g
    · rw [List.mem_singleton] at g; omega
/-- At most one for each block. -/
theorem IsBack.len {l : List It} {v : List Int} {y : Nat} {c : List Nat} (hb : BlkOk l) (h : IsBack l v y c) (hy : y < l.length) : (c.length : Int) ≤ blk l y + 1 := by
  induction h with
  | one y h => have := (hb y hy).1; simp; omega
  | step y x c h0 h1 h2 h3 h4 ih =>
    have g : rel l x y ≠ 0 := fun g => by rw [via_zero g] at h2; omega
    have := (rel_pos g).2
    have := ih h1
    rw [List.length_append]; simp; omega
/-- There is one. -/
theorem Lev.back {l : List It} {v : List Int} (hb : BlkOk l) (h : Lev l v) : ∀ (n : Nat) (y : Nat), y < l.length → blk l y < n → ∃ c, IsBack l v y c := by
  intro n
  induction n with
  | zero => intro y hy hn; have := (hb y hy).1; omega
  | succ n ih =>
    intro y hy hn
    by_cases g : v.getD y 0 ≤ 0
    · exact ⟨_, .one y g⟩
    · rcases (h.max y hy).hit with e | ⟨x, hx, e⟩
      · omega
      · -- the least one
        have hex : ∃ x, x < l.length ∧ via l v x y = v.getD y 0 := ⟨x, hx, e⟩
        obtain ⟨z, ⟨hz, ez⟩, hm⟩ : ∃ z, (z < l.length ∧ via l v z y = v.getD y 0) ∧ ∀ z', z' < z → ¬ (z' < l.length ∧ via l v z' y = v.getD y 0) := by
          clear ih
          have : ∀ k x, x < k → x < l.length ∧ via l v x y = v.getD y 0 → ∃ z, (z < l.length ∧ via l v z y = v.getD y 0) ∧ ∀ z', z' < z → ¬ (z' < l.length ∧ via l v z' y = v.getD y 0) := by
            intro k
            induction k with
            | zero => intro x hx; omega
            | succ k ihk =>
              intro x hxk hp
              by_cases c : ∃ z', z' < x ∧ (z' < l.length ∧ via l v z' y = v.getD y 0)
              · obtain ⟨z', h1, h2⟩ := c
                exact ihk z' (by omega) h2
              · exact ⟨x, hp, fun z' h1 h2 => c ⟨z', h1, h2⟩⟩
          exact this (x + 1) x (by omega) ⟨hx, e⟩
        have gr : rel l z y ≠ 0 := fun g => by rw [via_zero g] at ez; omega
        have := (rel_pos gr).2
        obtain ⟨c, hc⟩ := ih z hz (by omega)
        exact ⟨_, .step y z c (by omega) hz ez (fun z' h1 h2 => hm z' h1 ⟨by omega, h2⟩) hc⟩
end Go.Proofs.YtimkmieohkefiaaGreat

namespace Go.Proofs.YtimkmieohkefiaaGreat
open Go.RowKit

def btw (n a b : Int) : Bool := decide (a ≤ n) && decide (n ≤ b)
theorem btw_iff {n a b : Int} : btw n a b = true ↔ a ≤ n ∧ n ≤ b := by unfold btw; simp
/-- The first error of the items behind a round. -/
def vwI (r : Int) : List It → Int
  | [] => 0
  | p :: l => if okI p then (if p.2.2.1 < r then 12 else vwI p.2.2.1 l) else 2
def validR (l : List It) (wt : Int) : Int := if 96 < l.length then 3 else if btw wt 0 12 = true then vwI 0 l else 2
theorem vwI_ok {r t b n g : Int} {l : List It} (ho : okI (t, b, n, g)) (h : ¬ n < r) : vwI r ((t, b, n, g) :: l) = vwI n l := by
  show (if okI (t, b, n, g) then (if n < r then 12 else vwI n l) else 2) = _
  rw [if_pos ho, if_neg h]
theorem vwI_less {r t b n g : Int} {l : List It} (ho : okI (t, b, n, g)) (h : n < r) : vwI r ((t, b, n, g) :: l) = 12 := by
  show (if okI (t, b, n, g) then (if n < r then 12 else vwI n l) else 2) = _
  rw [if_pos ho, if_pos h]
theorem vwI_bad {r t b n g : Int} {l : List It} (ho : ¬ okI (t, b, n, g)) : vwI r ((t, b, n, g) :: l) = 2 := by
  show (if okI (t, b, n, g) then (if n < r then 12 else vwI n l) else 2) = _
  rw [if_neg ho]
theorem vwI_all {r : Int} {l : List It} (h : vwI r l = 0) : ∀ p ∈ l, okI p := by
  induction l generalizing r with
  | nil => intro p hp; cases hp
  | cons q l ih =>
    have e : (if okI q then (if q.2.2.1 < r then 12 else vwI q.2.2.1 l) else 2) = (0 : Int) := h
    by_cases ho : okI q
    · rw [if_pos ho] at e
      by_cases hr : q.2.2.1 < r
      · rw [if_pos hr] at e; omega
      · rw [if_neg hr] at e
        intro p hp
        rcases List.mem_cons.1 hp with rfl | hp
        · exact ho
        · exact ih e p hp
    · rw [if_neg ho] at e; omega
theorem valid_ok {l : List It} {wt : Int} (h : validR l wt = 0) : l.length ≤ 96 ∧ (∀ p ∈ l, okI p) ∧ BlkOk l := by
  unfold validR at h
  by_cases h1 : 96 < l.length
  · rw [if_pos h1] at h; omega
  · rw [if_neg h1] at h
    by_cases h2 : btw wt 0 12 = true
    · rw [if_pos h2] at h
      refine ⟨by omega, vwI_all h, fun y hy => (vwI_all h _ (getD_memI hy)).2.1⟩
    · rw [if_neg h2] at h; omega
theorem drop_at {l : List It} {k : Nat} (hk : k < l.length) : l.drop k = l.getD k it0 :: l.drop (k + 1) := by
  rw [List.drop_eq_getElem_cons hk, List.getD_eq_getElem?_getD, List.getElem?_eq_getElem hk]; rfl

theorem between_any (n a b : Int) (w : World) : Calls Tryz.prog 117 #[.int .i64 n, .int .i64 a, .int .i64 b] w fun e w' => e = .returned (.bool (btw n a b)) ∧ w' = w := by
  by_cases h1 : a ≤ n
  · by_cases h2 : n ≤ b
    · have e : btw n a b = true := btw_iff.2 ⟨h1, h2⟩
      rw [e]
      go_enter Tryz.func117, Tryz.ntmps117
      go_wp2_with fail
      go_ret
      exact ⟨ret_bool (by first | (simp; done) | (simp; omega)), rfl⟩
    · have e : btw n a b = false := Bool.eq_false_iff.2 (fun g => h2 (btw_iff.1 g).2)
      rw [e]
      go_enter Tryz.func117, Tryz.ntmps117
      go_wp2_with fail
      go_ret
      exact ⟨ret_bool (by first | (simp; done) | (simp; omega)), rfl⟩
  · have e : btw n a b = false := Bool.eq_false_iff.2 (fun g => h1 (btw_iff.1 g).1)
    rw [e]
    go_enter Tryz.func117, Tryz.ntmps117
    go_wp2_with fail
    go_ret
    exact ⟨ret_bool (by first | (simp; done) | (simp; omega)), rfl⟩
theorem okI_dec {p : It} : decide (okI p) = (btw p.1 0 15 && (btw p.2.1 0 31 && (btw p.2.2.1 0 12 && btw p.2.2.2 1 400))) := by
  rw [Bool.eq_iff_iff, decide_eq_true_iff]
  unfold okI
  simp [btw]
set_option maxHeartbeats 800000 in
theorem inRange_any (t b n g : Int) (w : World) :
    Calls Tryz.prog 118 #[.agg #[.int .i64 t, .int .i64 b, .int .i64 n, .int .i64 g]] w fun e w' => e = .returned (.bool (decide (okI (t, b, n, g)))) ∧ Below w.heap.size w w' := by
  have e : decide (okI (t, b, n, g)) = (btw t 0 15 && (btw b 0 31 && (btw n 0 12 && btw g 1 400))) := okI_dec
  rw [e]
  clear e
  cases h1 : btw t 0 15
  · go_enter Tryz.func118, Tryz.ntmps118
    go_wp2_with fail
    refine (between_any _ _ _ _).mono ?_
    rintro e w1 ⟨rfl, rfl⟩
    rw [h1]
    go_wp2_with fail
    go_ret
    exact ⟨rfl, (Below.refl _ _).alloc (Nat.le_refl _) _⟩
  · cases h2 : btw b 0 31
    · go_enter Tryz.func118, Tryz.ntmps118
      go_wp2_with fail
      refine (between_any _ _ _ _).mono ?_
      rintro e w1 ⟨rfl, rfl⟩
      rw [h1]
      go_wp2_with fail
      refine (between_any _ _ _ _).mono ?_
      rintro e w1 ⟨rfl, rfl⟩
      rw [h2]
      go_wp2_with fail
      go_ret
      exact ⟨rfl, (Below.refl _ _).alloc (Nat.le_refl _) _⟩
    · cases h3 : btw n 0 12
      · go_enter Tryz.func118, Tryz.ntmps118
        go_wp2_with fail
        refine (between_any _ _ _ _).mono ?_
        rintro e w1 ⟨rfl, rfl⟩
        rw [h1]
        go_wp2_with fail
        refine (between_any _ _ _ _).mono ?_
        rintro e w1 ⟨rfl, rfl⟩
        rw [h2]
        go_wp2_with fail
        refine (between_any _ _ _ _).mono ?_
        rintro e w1 ⟨rfl, rfl⟩
        rw [h3]
        go_wp2_with fail
        go_ret
        exact ⟨rfl, (Below.refl _ _).alloc (Nat.le_refl _) _⟩
      · go_enter Tryz.func118, Tryz.ntmps118
        go_wp2_with fail
        refine (between_any _ _ _ _).mono ?_
        rintro e w1 ⟨rfl, rfl⟩
        rw [h1]
        go_wp2_with fail
        refine (between_any _ _ _ _).mono ?_
        rintro e w1 ⟨rfl, rfl⟩
        rw [h2]
        go_wp2_with fail
        refine (between_any _ _ _ _).mono ?_
        rintro e w1 ⟨rfl, rfl⟩
        rw [h3]
        go_wp2_with fail
        refine (between_any _ _ _ _).mono ?_
        rintro e w1 ⟨rfl, rfl⟩
        go_wp2_with fail
        go_ret
        exact ⟨ret_bool (by simp), (Below.refl _ _).alloc (Nat.le_refl _) _⟩
theorem index_any (A : Option Addr) (n c : Nat) (x : Int) (hn : n ≤ maxLen) (w : World) :
    Calls Tryz.prog 73 #[.slice A n c, .int .i64 x] w fun e w' => e = .returned (.bool (btw x 0 ((n : Int) - 1))) ∧ w' = w := by
  have hn' : n ≤ 9223372036854775807 := hn
  go_enter Tryz.func73, Tryz.ntmps73
  go_wp2_with fail
  refine (between_any _ _ _ _).mono ?_
  rintro e w1 ⟨rfl, rfl⟩
  go_wp2_with fail
  go_ret
  exact ⟨rfl, rfl⟩
/-- The job's value. -/
abbrev jv (A : Option Addr) (n c : Nat) (wt : Int) : Value := .agg #[.slice A n c, .int .i64 wt]
set_option maxHeartbeats 1600000 in
theorem valid_any (l : List It) (A : Option Addr) (c : Nat) (wt : Int) (w : World) (h : IRow w A l) :
    Calls Tryz.prog 72 #[jv A l.length c wt] w fun e w' => e = .returned (.int .i64 (validR l wt)) ∧ Below w.heap.size w w' := by
  have hl : l.length ≤ 9223372036854775807 := h.len
  have B0 := Lib.hid ((Below.refl w.heap.size w).alloc (Nat.le_refl _) (.cells #[.slice A l.length c, .int .i64 wt] 37))
  by_cases hbig : 96 < l.length
  · have HP := Lib.hid (show validR l wt = 3 by unfold validR; rw [if_pos hbig])
    have hb : (96 : Int) < (l.length : Int) := by omega
    clear h
    go_enter Tryz.func72, Tryz.ntmps72
    go_wp2_with fail
    go_ret
    exact ⟨ret_int HP.out.symm, B0.out⟩
  · cases hw : btw wt 0 12
    · have HP := Lib.hid (show validR l wt = 2 by unfold validR; rw [if_neg hbig, hw]; rfl)
      clear h
      go_enter Tryz.func72, Tryz.ntmps72
      go_wp2_with fail
      refine (between_any _ _ _ _).mono ?_
      rintro e w1 ⟨rfl, rfl⟩
      rw [hw]
      go_wp2_with fail
      go_ret
      exact ⟨ret_int HP.out.symm, B0.out⟩
    · have HP := Lib.hid (show validR l wt = vwI 0 l by unfold validR; rw [if_neg hbig, if_pos hw])
      have H := Lib.hid h
      have hnew : (w.alloc (.cells #[.slice A l.length c, .int .i64 wt] 37)).cell? ⟨w.heap.size, 0, none⟩ = some (.slice A l.length c) := by rw [cell_new]; rfl
      obtain ⟨L, hL⟩ : ∃ n, n = l.length := ⟨_, rfl⟩
      have HL := Lib.hid hL
      rw [← hL] at hl hbig hnew B0 ⊢
      clear h hL hnew
      go_enter Tryz.func72, Tryz.ntmps72
      go_wp2_with fail
      refine (between_any _ _ _ _).mono ?_
      rintro e w1 ⟨rfl, rfl⟩
      rw [hw]
      go_wp2_with fail
      go_loopw [3, 17] (fun b i wr => ∃ k : Nat, k ≤ L ∧ i = .int .i64 k ∧ ∃ r : Int, b = .int .i64 r ∧ Hid (vwI 0 l = vwI r (l.drop k)) ∧ Hid (Below w.heap.size w wr)) (fun _ i _ => L - (intOf i).toNat)
      case atStart => exact ⟨0, by omega, rfl, 0, rfl, Lib.hid rfl, B0⟩
      case round =>
        clear B0
        obtain ⟨k, hk, rfl, r, rfl, V, B⟩ := hrel
        by_cases hlt : k < L
        · obtain ⟨ad, rfl, C⟩ := (H.out.below B.out).at_ k (by rw [← HL.out]; exact hlt)
          have hd := drop_at (l := l) (k := k) (by rw [← HL.out]; exact hlt)
          obtain ⟨⟨t, b, n, g⟩, hp⟩ : ∃ p, p = l.getD k it0 := ⟨_, rfl⟩
          rw [← hp] at C hd
          have hv := V.out
          rw [hd] at hv
          have HV := Lib.hid hv
          obtain ⟨c0, c1, c2, c3⟩ := C.spelt
          clear hp hd hv V C
          go_wp2_with fail
          refine (inRange_any t b n g _).mono ?_
          rintro e w' ⟨rfl, B1⟩
          clear c0 c1 c2 c3
          have P1 := (IPl.new (w := wr) (p := (t, b, n, g)) (T := 52) wr.heap.size rfl).below B1
          have BB := Lib.hid (B.out.trans ((below1 B1).mono B.out.size))
          obtain ⟨p0, p1, p2, p3, plt⟩ := P1
          clear B1
          by_cases ho : okI (t, b, n, g)
          · have e1 : decide (okI (t, b, n, g)) = true := decide_eq_true ho
            have hv := HV.out
            rw [e1]
            clear e1
            by_cases hlt2 : n < r
            · have HV2 := Lib.hid (hv.trans (vwI_less ho hlt2))
              clear hv ho
              go_wp2_with fail
              go_ret
              exact ⟨ret_int (HP.out.trans HV2.out).symm, BB.out⟩
            · have HV2 := Lib.hid (hv.trans (vwI_ok ho hlt2))
              clear hv ho
              go_wp2_with fail
              go_roundw
              case rel => exact ⟨k + 1, by omega, by go_num, n, rfl, HV2, BB⟩
              case measure => simp [intOf]; omega
          · have e1 : decide (okI (t, b, n, g)) = false := decide_eq_false ho
            have HV2 := Lib.hid (HV.out.trans (vwI_bad ho))
            rw [e1]
            clear e1 ho
            go_wp2_with fail
            go_ret
            exact ⟨ret_int (HP.out.trans HV2.out).symm, BB.out⟩
        · obtain rfl : k = L := by omega
          have hv := V.out
          rw [HL.out, List.drop_length] at hv
          have HV := Lib.hid hv
          clear hv hlt hk
          go_wp2_with fail
          go_ret
          exact ⟨ret_int (HP.out.trans HV.out).symm, B.out⟩
end Go.Proofs.YtimkmieohkefiaaGreat

namespace Go.Proofs.YtimkmieohkefiaaGreat

/-- The bits of x that are set, of the lowest f. -/
def pcF : Nat → Nat → Nat
  | 0, _ => 0
  | f + 1, x => x % 2 + pcF f (x / 2)
def pc (x : Nat) : Nat := pcF 12 x
theorem pcF_more (f : Nat) : ∀ x, x < 2 ^ f → pcF (f + 1) x = pcF f x := by
  induction f with
  | zero => intro x hx; obtain rfl : x = 0 := by simpa using hx
            rfl
  | succ f ih =>
    intro x hx
    rw [Nat.pow_succ] at hx
    show x % 2 + pcF (f + 1) (x / 2) = x % 2 + pcF f (x / 2)
    rw [ih (x / 2) (by omega)]
theorem pc_zero : pc 0 = 0 := rfl
theorem pc_step {x : Nat} (h : x < 4096) : pc x = x % 2 + pc (x / 2) := by
  show x % 2 + pcF 11 (x / 2) = x % 2 + pcF 12 (x / 2)
  rw [pcF_more 11 (x / 2) (by omega)]
/-- A test of all numbers below 2^k, behind a base. -/
def allT (p : Nat → Bool) : Nat → Nat → Bool
  | 0, b => p b
  | k + 1, b => allT p k b && allT p k (b + 2 ^ k)
theorem allT_at {p : Nat → Bool} : ∀ (k b : Nat), allT p k b = true → ∀ t, t < 2 ^ k → p (b + t) = true := by
  intro k
  induction k with
  | zero => intro b h t ht; obtain rfl : t = 0 := by simpa using ht
            exact h
  | succ k ih =>
    intro b h t ht
    unfold allT at h
    rw [Bool.and_eq_true] at h
    rw [Nat.pow_succ] at ht
    rcases Nat.lt_or_ge t (2 ^ k) with g | g
    · exact ih b h.1 t g
    · have := ih (b + 2 ^ k) h.2 (t - 2 ^ k) (by omega)
      rwa [show b + 2 ^ k + (t - 2 ^ k) = b + t by omega] at this
theorem allT_all {p : Nat → Bool} {k : Nat} (h : allT p k 0 = true) {t : Nat} (ht : t < 2 ^ k) : p t = true := by
  have := allT_at k 0 h t ht
  rwa [Nat.zero_add] at this
def highB (b : Nat) : Bool := allT (fun t => pc (2 ^ b + t) == 1 + pc t) b 0
set_option maxRecDepth 100000 in
theorem high_all : (List.range 12).all highB = true := by decide +kernel
theorem pc_high {b t : Nat} (hb : b < 12) (ht : t < 2 ^ b) : pc (2 ^ b + t) = 1 + pc t := by
  have h := List.all_eq_true.1 high_all b (List.mem_range.2 hb)
  have := allT_all h ht
  simpa using this
/-- Clearing the lowest bit. -/
def dropB (x : Nat) : Bool := x == 0 || (pc (x &&& (x - 1)) + 1 == pc x && decide (x &&& (x - 1) < x))
set_option maxRecDepth 100000 in
theorem drop_all : allT dropB 12 0 = true := by decide +kernel
theorem pc_drop {x : Nat} (h : x < 4096) (h0 : x ≠ 0) : pc (x &&& (x - 1)) + 1 = pc x ∧ x &&& (x - 1) < x := by
  have e := allT_all drop_all h
  unfold dropB at e
  simp [h0] at e
  exact e

/-- k is a code of the form (r, w). -/
def isC (r w k : Nat) : Bool := decide (k < 4096) && (k % 2 ^ r == 2 ^ r - 1 && decide (pc (k / 2 ^ r) ≤ w))
theorem isC_iff {r w k : Nat} : isC r w k = true ↔ k < 4096 ∧ k % 2 ^ r = 2 ^ r - 1 ∧ pc (k / 2 ^ r) ≤ w := by
  unfold isC; simp
/-- How many codes lie below n. -/
def cnt (r w : Nat) : Nat → Nat
  | 0 => 0
  | n + 1 => cnt r w n + (if isC r w n = true then 1 else 0)
theorem cnt_yes {r w n : Nat} (h : isC r w n = true) : cnt r w (n + 1) = cnt r w n + 1 := by
  show cnt r w n + (if isC r w n = true then 1 else 0) = _
  rw [if_pos h]
theorem cnt_no {r w n : Nat} (h : isC r w n = false) : cnt r w (n + 1) = cnt r w n := by
  show cnt r w n + (if isC r w n = true then 1 else 0) = _
  rw [h]; rfl
theorem cnt_same {r w n m : Nat} (h : n ≤ m) (hn : ∀ x, n ≤ x → x < m → isC r w x = false) : cnt r w n = cnt r w m := by
  induction m with
  | zero => obtain rfl : n = 0 := by omega
            rfl
  | succ m ih =>
    rcases Nat.lt_or_ge m n with g | g
    · obtain rfl : n = m + 1 := by omega
      rfl
    · rw [ih g (fun x h1 h2 => hn x h1 (by omega)), cnt_no (hn m g (by omega))]
theorem pow_mod {r b : Nat} (h : r ≤ b) (t : Nat) : (2 ^ b + t) % 2 ^ r = t % 2 ^ r ∧ (2 ^ b + t) / 2 ^ r = 2 ^ (b - r) + t / 2 ^ r := by
  have e : 2 ^ b = 2 ^ r * 2 ^ (b - r) := by rw [← Nat.pow_add]; congr 1; omega
  rw [e]
  exact ⟨Nat.mul_add_mod _ _ _, Nat.mul_add_div (Nat.two_pow_pos r) _ _⟩
theorem div_lt_pow {r b t : Nat} (h : r ≤ b) (ht : t < 2 ^ b) : t / 2 ^ r < 2 ^ (b - r) := by
  rw [Nat.div_lt_iff_lt_mul (Nat.two_pow_pos r), ← Nat.pow_add]
  rwa [show b - r + r = b by omega]
theorem pow_le12 {b : Nat} (h : b < 12) : 2 ^ b ≤ 2048 := Nat.pow_le_pow_right (by decide) (show b ≤ 11 by omega)
theorem pow_le4096 {b : Nat} (h : b ≤ 12) : 2 ^ b ≤ 4096 := Nat.pow_le_pow_right (by decide) (show b ≤ 12 by omega)
/-- With the bit b. -/
theorem isC_high {r w b t : Nat} (hr : r ≤ b) (hb : b < 12) (ht : t < 2 ^ b) : isC r (w + 1) (2 ^ b + t) = isC r w t := by
  have hp := pow_le12 hb
  have hm := pow_mod hr t
  have hd := div_lt_pow hr ht
  rw [Bool.eq_iff_iff, isC_iff, isC_iff, hm.1, hm.2, pc_high (by omega) hd]
  constructor
  · rintro ⟨h1, h2, h3⟩; exact ⟨by omega, h2, by omega⟩
  · rintro ⟨h1, h2, h3⟩; exact ⟨by omega, h2, by omega⟩
theorem isC_none {r b t : Nat} (hr : r ≤ b) (hb : b < 12) (ht : t < 2 ^ b) : isC r 0 (2 ^ b + t) = false := by
  have hm := pow_mod hr t
  have hd := div_lt_pow hr ht
  rw [Bool.eq_false_iff]
  intro h
  have := (isC_iff.1 h).2.2
  rw [hm.2, pc_high (by omega) hd] at this; omega
theorem cnt_high {r w b : Nat} (hr : r ≤ b) (hb : b < 12) {t : Nat} (ht : t ≤ 2 ^ b) : cnt r (w + 1) (2 ^ b + t) = cnt r (w + 1) (2 ^ b) + cnt r w t := by
  induction t with
  | zero => rfl
  | succ t ih =>
    have e := isC_high (w := w) hr hb (show t < 2 ^ b by omega)
    have i := ih (by omega)
    cases h : isC r w t
    · rw [h] at e
      rw [show 2 ^ b + (t + 1) = (2 ^ b + t) + 1 from rfl, cnt_no e, cnt_no h]; exact i
    · rw [h] at e
      rw [show 2 ^ b + (t + 1) = (2 ^ b + t) + 1 from rfl, cnt_yes e, cnt_yes h]; omega
theorem cnt_none {r b : Nat} (hr : r ≤ b) (hb : b < 12) {t : Nat} (ht : t ≤ 2 ^ b) : cnt r 0 (2 ^ b + t) = cnt r 0 (2 ^ b) :=
  (cnt_same (Nat.le_add_right _ _) (fun x h1 h2 => by
    have := isC_none hr hb (show x - 2 ^ b < 2 ^ b by omega)
    rwa [show 2 ^ b + (x - 2 ^ b) = x by omega] at this)).symm
/-- Below the missed bits there is none. -/
theorem isC_low {r w k : Nat} (h : k < 2 ^ r - 1) : isC r w k = false := by
  rw [Bool.eq_false_iff]
  intro g
  have := (isC_iff.1 g).2.1
  rw [Nat.mod_eq_of_lt (by omega)] at this; omega
theorem cnt_low {r w n : Nat} (h : n ≤ 2 ^ r - 1) : cnt r w n = 0 :=
  ((cnt_same (Nat.zero_le n) (fun x _ h2 => isC_low (by omega))).symm : cnt r w n = cnt r w 0)
theorem isC_first {r w : Nat} (hr : r ≤ 12) : isC r w (2 ^ r - 1) = true := by
  have hp := Nat.two_pow_pos r
  have h4 := pow_le4096 hr
  refine isC_iff.2 ⟨by omega, Nat.mod_eq_of_lt (by omega), ?_⟩
  rw [Nat.div_eq_of_lt (by omega)]; exact Nat.zero_le _
theorem cnt_first {r w : Nat} (hr : r ≤ 12) : cnt r w (2 ^ r) = 1 := by
  have hp := Nat.two_pow_pos r
  have := cnt_yes (isC_first (w := w) hr)
  rw [show 2 ^ r - 1 + 1 = 2 ^ r by omega, cnt_low (Nat.le_refl _)] at this
  exact this

/-- The first code at or above n, with fuel. -/
def nxF (r w : Nat) : Nat → Nat → Nat
  | 0, n => n
  | f + 1, n => if isC r w n = true then n else nxF r w f (n + 1)
def nxt (r w n : Nat) : Nat := nxF r w (4096 - n) n
theorem nxt_hit {r w n : Nat} (h : isC r w n = true) : nxt r w n = n := by
  unfold nxt
  cases 4096 - n with
  | zero => rfl
  | succ f => show (if isC r w n = true then n else _) = n; rw [if_pos h]
theorem nxt_go {r w n : Nat} (h : isC r w n = false) (hn : n < 4096) : nxt r w n = nxt r w (n + 1) := by
  unfold nxt
  rw [show 4096 - n = (4096 - (n + 1)) + 1 by omega]
  show (if isC r w n = true then n else _) = _
  rw [h]; rfl
theorem nxt_end {r w n : Nat} (h : 4096 ≤ n) : nxt r w n = n := by
  unfold nxt
  rw [show 4096 - n = 0 by omega]; rfl
theorem nxt_skip {r w n m : Nat} (h : n ≤ m) (hm : m ≤ 4096) (hn : ∀ x, n ≤ x → x < m → isC r w x = false) : nxt r w n = nxt r w m := by
  induction m with
  | zero => obtain rfl : n = 0 := by omega
            rfl
  | succ m ih =>
    rcases Nat.lt_or_ge m n with g | g
    · obtain rfl : n = m + 1 := by omega
      rfl
    · rw [ih g (by omega) (fun x h1 h2 => hn x h1 (by omega)), nxt_go (hn m g (by omega)) (by omega)]
/-- What the next code is. -/
theorem nxt_is (r w n : Nat) : (nxt r w n < 4096 ∧ n ≤ nxt r w n ∧ isC r w (nxt r w n) = true ∧ ∀ x, n ≤ x → x < nxt r w n → isC r w x = false) ∨
    (4096 ≤ nxt r w n ∧ ∀ x, n ≤ x → isC r w x = false) := by
  have key : ∀ f n, 4096 - n = f → (nxt r w n < 4096 ∧ n ≤ nxt r w n ∧ isC r w (nxt r w n) = true ∧ ∀ x, n ≤ x → x < nxt r w n → isC r w x = false) ∨
      (4096 ≤ nxt r w n ∧ ∀ x, n ≤ x → isC r w x = false) := by
    intro f
    induction f with
    | zero =>
      intro n hf
      right
      rw [nxt_end (by omega)]
      refine ⟨by omega, fun x hx => Bool.eq_false_iff.2 (fun g => ?_)⟩
      have := (isC_iff.1 g).1; omega
    | succ f ih =>
      intro n hf
      cases h : isC r w n
      · rw [nxt_go h (by omega)]
        rcases ih (n + 1) (by omega) with ⟨h1, h2, h3, h4⟩ | ⟨h1, h2⟩
        · refine Or.inl ⟨h1, by omega, h3, fun x hx hx2 => ?_⟩
          rcases Nat.eq_or_lt_of_le hx with rfl | g
          · exact h
          · exact h4 x g hx2
        · refine Or.inr ⟨h1, fun x hx => ?_⟩
          rcases Nat.eq_or_lt_of_le hx with rfl | g
          · exact h
          · exact h2 x g
      · rw [nxt_hit h]
        exact Or.inl ⟨(isC_iff.1 h).1, Nat.le_refl _, h, fun x h1 h2 => by omega⟩
  exact key _ n rfl

end Go.Proofs.YtimkmieohkefiaaGreat

namespace Go.Proofs.YtimkmieohkefiaaGreat
open Go.RowKit

theorem ofInt_i64n (a : Nat) (ha : a < 9223372036854775808) : (BitVec.ofInt 64 (a : Int)).toNat = a := by
  rw [BitVec.ofInt_natCast, BitVec.toNat_ofNat]; exact Nat.mod_eq_of_lt (by omega)
theorem andI (a b : Nat) (ha : a < 9223372036854775808) (hb : b < 9223372036854775808) : bits .and .i64 (a : Int) (b : Int) = ((a &&& b : Nat) : Int) := by
  have hx : a &&& b < 2 ^ 63 := Nat.and_lt_two_pow _ (by omega)
  show IntKind.i64.wrap ((BitVec.ofInt 64 (a : Int) &&& BitVec.ofInt 64 (b : Int)).toNat : Int) = _
  rw [BitVec.toNat_and, ofInt_i64n a ha, ofInt_i64n b hb, IntKind.wrap_i64]; omega
theorem orI (a b : Nat) (ha : a < 9223372036854775808) (hb : b < 9223372036854775808) : bits .or .i64 (a : Int) (b : Int) = ((a ||| b : Nat) : Int) := by
  have hx : a ||| b < 2 ^ 63 := Nat.or_lt_two_pow (by omega) (by omega)
  show IntKind.i64.wrap ((BitVec.ofInt 64 (a : Int) ||| BitVec.ofInt 64 (b : Int)).toNat : Int) = _
  rw [BitVec.toNat_or, ofInt_i64n a ha, ofInt_i64n b hb, IntKind.wrap_i64]; omega
theorem one_and (a : Nat) (ha : a < 9223372036854775808) : bits .and .i64 (a : Int) 1 = ((a % 2 : Nat) : Int) := by
  have e := andI a 1 ha (by decide)
  rw [Nat.and_one_is_mod] at e
  exact e
theorem cast_shr (v p : Nat) : (v : Int) / 2 ^ p = ((v / 2 ^ p : Nat) : Int) := by simp
theorem wrapI (n : Nat) (h : n < 9223372036854775808) : IntKind.i64.wrap (n : Int) = n := by
  rw [IntKind.wrap_i64]; omega
theorem wrap6 (n : Nat) (h : n < 9223372036854775808) : wrap64 (n : Int) = n := by
  unfold wrap64; omega

def mN (r : Nat) : Nat := 2 ^ r - 1
theorem mN_lt {r : Nat} (h : r ≤ 12) : mN r < 4096 := by
  have := pow_le4096 h
  have := Nat.two_pow_pos r
  unfold mN; omega
theorem pow_run {r : Nat} (h : r ≤ 12) : wrap64 (2 ^ r) = ((2 ^ r : Nat) : Int) := by
  have := pow_le4096 h
  have e : ((2 : Int) ^ r) = ((2 ^ r : Nat) : Int) := by simp
  rw [e, wrap6 _ (by omega)]
/-- The real part. -/
def rpN (r k : Nat) : Nat := k / 2 ^ r * 2 ^ r
theorem rpN_le (r k : Nat) : rpN r k ≤ k := Nat.div_mul_le_self _ _
def rpB (r : Nat) : Bool := allT (fun k => bits .andNot .i64 (k : Int) (mN r : Int) == (rpN r k : Int)) 12 0
set_option maxRecDepth 100000 in
theorem rp_all : (List.range 13).all rpB = true := by decide +kernel
theorem rp_run {r k : Nat} (hr : r ≤ 12) (hk : k < 4096) : bits .andNot .i64 (k : Int) (mN r : Int) = (rpN r k : Int) := by
  have h := List.all_eq_true.1 rp_all r (List.mem_range.2 (by omega))
  have := allT_all h hk
  simpa using this
theorem hm_run {r k : Nat} (hr : r ≤ 12) (hk : k < 4096) : bits .and .i64 (k : Int) (mN r : Int) = ((k % 2 ^ r : Nat) : Int) := by
  have hm := mN_lt hr
  rw [andI k (mN r) (by omega) (by omega)]
  unfold mN
  rw [Nat.and_two_pow_sub_one_eq_mod]
def orN (r n : Nat) : Nat := n / 2 ^ r * 2 ^ r + mN r
theorem or_run {r n : Nat} (hr : r ≤ 12) (hn : n < 9223372036854775808) : bits .or .i64 (n : Int) (mN r : Int) = (orN r n : Int) := by
  have hm := mN_lt hr
  rw [orI n (mN r) hn (by omega)]
  unfold orN mN
  refine congrArg Int.ofNat ?_
  have hp := Nat.two_pow_pos r
  have e1 := Nat.two_pow_add_eq_or_of_lt (i := r) (b := n % 2 ^ r) (Nat.mod_lt _ hp) (n / 2 ^ r)
  have e2 := Nat.two_pow_add_eq_or_of_lt (i := r) (b := 2 ^ r - 1) (by omega) (n / 2 ^ r)
  rw [Nat.div_add_mod] at e1
  rw [Nat.mul_comm (n / 2 ^ r), e2]
  conv => lhs; rw [e1]
  rw [Nat.or_assoc]
  congr 1
  have h1 : n % 2 ^ r ||| (2 ^ r - 1) < 2 ^ r := Nat.or_lt_two_pow (Nat.mod_lt _ hp) (by omega)
  have h2 := Nat.right_le_or (n := n % 2 ^ r) (m := 2 ^ r - 1)
  omega
def lowN (x : Nat) : Nat := x - (x &&& (x - 1))
def lowB (x : Nat) : Bool := x == 0 || (bits .andNot .i64 (x : Int) ((x - 1 : Nat) : Int) == (lowN x : Int) && (decide (0 < lowN x) && (decide (lowN x ≤ x) &&
  ((List.range (lowN x)).all (fun u => decide (4096 ≤ x + u) || decide (pc x ≤ pc (x + u))) && (List.range 13).all (fun r => decide (x % 2 ^ r ≠ 0) || lowN x % 2 ^ r == 0)))))
set_option maxRecDepth 100000 in
theorem low_all : allT lowB 12 0 = true := by decide +kernel
theorem low_run {x : Nat} (h : x < 4096) (h0 : x ≠ 0) : bits .andNot .i64 (x : Int) ((x - 1 : Nat) : Int) = (lowN x : Int) := by
  have e := allT_all low_all h
  unfold lowB at e
  rcases Bool.or_eq_true _ _ ▸ e with e | e
  · exact absurd (by simpa using e) h0
  · rw [Bool.and_eq_true] at e
    simpa using e.1
theorem low_bd {x : Nat} (h : x < 4096) (h0 : x ≠ 0) : 0 < lowN x ∧ lowN x ≤ x := by
  have e := allT_all low_all h
  unfold lowB at e
  rcases Bool.or_eq_true _ _ ▸ e with e | e
  · exact absurd (by simpa using e) h0
  · rw [Bool.and_eq_true, Bool.and_eq_true, Bool.and_eq_true] at e
    exact ⟨by simpa using e.2.1, by simpa using e.2.2.1⟩
theorem low_more {x u : Nat} (h : x < 4096) (h0 : x ≠ 0) (hu : u < lowN x) (hs : x + u < 4096) : pc x ≤ pc (x + u) := by
  have e := allT_all low_all h
  unfold lowB at e
  rcases Bool.or_eq_true _ _ ▸ e with e | e
  · exact absurd (by simpa using e) h0
  · rw [Bool.and_eq_true, Bool.and_eq_true, Bool.and_eq_true, Bool.and_eq_true] at e
    have := List.all_eq_true.1 e.2.2.2.1 u (List.mem_range.2 hu)
    rcases Bool.or_eq_true _ _ ▸ this with g | g
    · have : 4096 ≤ x + u := by simpa using g
      omega
    · simpa using g
theorem low_mod {x r : Nat} (h : x < 4096) (h0 : x ≠ 0) (hr : r ≤ 12) (hx : x % 2 ^ r = 0) : lowN x % 2 ^ r = 0 := by
  have e := allT_all low_all h
  unfold lowB at e
  rcases Bool.or_eq_true _ _ ▸ e with e | e
  · exact absurd (by simpa using e) h0
  · rw [Bool.and_eq_true, Bool.and_eq_true, Bool.and_eq_true, Bool.and_eq_true] at e
    have := List.all_eq_true.1 e.2.2.2.2 r (List.mem_range.2 (by omega))
    rcases Bool.or_eq_true _ _ ▸ this with g | g
    · have : x % 2 ^ r ≠ 0 := by simpa using g
      exact absurd hx this
    · simpa using g
end Go.Proofs.YtimkmieohkefiaaGreat

namespace Go.Proofs.YtimkmieohkefiaaGreat
open Go.RowKit

theorem pc_shl (r : Nat) : ∀ y, y * 2 ^ r < 4096 → pc (y * 2 ^ r) = pc y := by
  induction r with
  | zero => intro y _; rw [Nat.pow_zero, Nat.mul_one]
  | succ r ih =>
    intro y hy
    have e : y * 2 ^ (r + 1) = 2 * (y * 2 ^ r) := by rw [Nat.pow_succ, ← Nat.mul_assoc, Nat.mul_comm]
    rw [e] at hy ⊢
    rw [pc_step hy, show 2 * (y * 2 ^ r) % 2 = 0 by omega, show 2 * (y * 2 ^ r) / 2 = y * 2 ^ r by omega, ih y (by omega), Nat.zero_add]
theorem rp_pc {r k : Nat} (hk : k < 4096) : pc (rpN r k) = pc (k / 2 ^ r) := pc_shl r _ (Nat.lt_of_le_of_lt (rpN_le r k) hk)
theorem rp_mod (r k : Nat) : rpN r k % 2 ^ r = 0 := Nat.mul_mod_left _ _
/-- A number with all missed bits is its real part and those. -/
theorem form_eq {r k : Nat} (h : k % 2 ^ r = 2 ^ r - 1) : k = rpN r k + mN r := by
  have := Nat.div_add_mod k (2 ^ r)
  unfold rpN mN
  rw [Nat.mul_comm]; omega
theorem add_mod0 {a b m : Nat} (h1 : a % m = 0) (h2 : b % m = 0) : (a + b) % m = 0 := by
  rw [Nat.add_mod, h1, h2]; simp
/-- A step of the program: with too many real bits there is no code up to the next number. -/
theorem next_step {r w k : Nat} (hr : r ≤ 12) (hk : k < 4096) (hm : k % 2 ^ r = 2 ^ r - 1) (hw : w < pc (rpN r k)) :
    (k + lowN (rpN r k)) % 2 ^ r = 2 ^ r - 1 ∧ (∀ x, k ≤ x → x < k + lowN (rpN r k) → isC r w x = false) := by
  have hl := rpN_le r k
  have h0 : rpN r k ≠ 0 := fun e => by rw [e] at hw; exact absurd hw (by rw [pc_zero]; omega)
  have lm := low_mod (by omega) h0 hr (rp_mod r k)
  have hp := Nat.two_pow_pos r
  refine ⟨?_, fun x h1 h2 => Bool.eq_false_iff.2 (fun g => ?_)⟩
  · have e := form_eq hm
    rw [show k + lowN (rpN r k) = (rpN r k + lowN (rpN r k)) + mN r by omega, Nat.add_mod, add_mod0 (rp_mod r k) lm, Nat.zero_add, Nat.mod_mod]
    exact Nat.mod_eq_of_lt (by unfold mN; omega)
  · obtain ⟨g1, g2, g3⟩ := isC_iff.1 g
    have ex := form_eq g2
    have ek := form_eq hm
    have hxl := rpN_le r x
    obtain ⟨u, hu⟩ : ∃ u, rpN r x = rpN r k + u := ⟨rpN r x - rpN r k, by omega⟩
    have h4 := low_more (x := rpN r k) (u := u) (by omega) h0 (by omega) (by omega)
    rw [← hu, rp_pc g1] at h4
    omega
theorem or_mod {r n : Nat} : orN r n % 2 ^ r = 2 ^ r - 1 := by
  have hp := Nat.two_pow_pos r
  unfold orN mN
  rw [Nat.mul_comm, Nat.mul_add_mod]
  exact Nat.mod_eq_of_lt (by omega)
theorem or_ge {r n : Nat} : n ≤ orN r n := by
  have hp := Nat.two_pow_pos r
  have := Nat.div_add_mod n (2 ^ r)
  have := Nat.mod_lt n hp
  unfold orN mN
  rw [Nat.mul_comm]; omega
theorem or_none {r w n x : Nat} (h1 : n ≤ x) (h2 : x < orN r n) : isC r w x = false := by
  refine Bool.eq_false_iff.2 (fun g => ?_)
  have ex := form_eq (isC_iff.1 g).2.1
  have hd : n / 2 ^ r ≤ x / 2 ^ r := Nat.div_le_div_right h1
  have := Nat.mul_le_mul_right (2 ^ r) hd
  unfold orN at h2
  unfold rpN at ex
  omega
end Go.Proofs.YtimkmieohkefiaaGreat

namespace Go.Proofs.YtimkmieohkefiaaGreat
open Go.RowKit

/-- A round, a code, a round and a weight in their ranges. -/
def rndB (r : Int) : Bool := decide (0 ≤ r ∧ r < 13)
def cdB (k : Int) : Bool := decide (0 ≤ k ∧ k < 4096)
def frmB (r v : Int) : Bool := decide ((0 ≤ r ∧ r < 13) ∧ (0 ≤ v ∧ v ≤ 12))
theorem rndB_iff {r : Int} : rndB r = true ↔ 0 ≤ r ∧ r < 13 := decide_eq_true_iff
theorem cdB_iff {k : Int} : cdB k = true ↔ 0 ≤ k ∧ k < 4096 := decide_eq_true_iff
theorem frmB_iff {r v : Int} : frmB r v = true ↔ (0 ≤ r ∧ r < 13) ∧ (0 ≤ v ∧ v ≤ 12) := decide_eq_true_iff
theorem b_dec {p : Prop} [Decidable p] {b : Bool} (h : p ↔ b = true) : decide p = b := Bool.eq_iff_iff.2 (by rw [decide_eq_true_iff]; exact h)
theorem b_no {b : Bool} (h : ¬ b = true) : false = b := (Bool.eq_false_iff.2 h).symm
theorem b_yes {b : Bool} (h : b = true) : true = b := h.symm

theorem isRound_any (r : Int) (w : World) : Calls Tryz.prog 144 #[.int .i64 r] w fun e w' => e = .returned (.bool (rndB r)) ∧ w = w' := by
  by_cases h0 : 0 ≤ r
  all_goals
    go_enter Tryz.func144, Tryz.ntmps144
    go_wp2
    go_ret
    exact ⟨ret_bool (by first | exact b_no (by rw [rndB_iff]; omega) | exact b_yes (by rw [rndB_iff]; omega) | exact b_dec (by rw [rndB_iff]; omega)), rfl⟩
theorem isCode_any (k : Int) (w : World) : Calls Tryz.prog 135 #[.int .i64 k] w fun e w' => e = .returned (.bool (cdB k)) ∧ w = w' := by
  by_cases h0 : 0 ≤ k
  all_goals
    go_enter Tryz.func135, Tryz.ntmps135
    go_wp2
    go_ret
    exact ⟨ret_bool (by first | exact b_no (by rw [cdB_iff]; omega) | exact b_yes (by rw [cdB_iff]; omega) | exact b_dec (by rw [cdB_iff]; omega)), rfl⟩
theorem isForm_any (r v : Int) (w : World) : Calls Tryz.prog 159 #[.int .i64 r, .int .i64 v] w fun e w' => e = .returned (.bool (frmB r v)) ∧ w = w' := by
  by_cases h0 : 0 ≤ r ∧ r < 13
  · by_cases h1 : 0 ≤ v
    all_goals
      go_enter Tryz.func159, Tryz.ntmps159
      go_wp2_with fail
      refine (isRound_any _ _).mono ?_
      rintro e w1 ⟨rfl, rfl⟩
      rw [rndB_iff.2 h0]
      go_wp2_with fail
      go_ret
      exact ⟨ret_bool (by first | exact b_no (by rw [frmB_iff]; omega) | exact b_yes (by rw [frmB_iff]; omega) | exact b_dec (by rw [frmB_iff]; omega)), rfl⟩
  · go_enter Tryz.func159, Tryz.ntmps159
    go_wp2_with fail
    refine (isRound_any _ _).mono ?_
    rintro e w1 ⟨rfl, rfl⟩
    rw [Bool.eq_false_iff.2 (fun g => h0 (rndB_iff.1 g))]
    go_wp2_with fail
    go_ret
    exact ⟨ret_bool (by first | exact b_no (by rw [frmB_iff]; omega) | exact b_yes (by rw [frmB_iff]; omega) | exact b_dec (by rw [frmB_iff]; omega)), rfl⟩
theorem missed_any (r : Nat) (w : World) (hr : r ≤ 12) : Calls Tryz.prog 160 #[.int .i64 (r : Int)] w fun e w' => e = .returned (.int .i64 (mN r : Int)) ∧ w = w' := by
  have hp := pow_run hr
  have h1 := pow_le4096 hr
  have h2 := Nat.two_pow_pos r
  go_enter Tryz.func160, Tryz.ntmps160
  go_wp2_with fail
  go_ret
  refine ⟨ret_int ?_, rfl⟩
  have e : ((2 : Int) ^ r) = ((2 ^ r : Nat) : Int) := by simp
  unfold mN
  rw [e, show ((2 ^ r : Nat) : Int) - 1 = ((2 ^ r - 1 : Nat) : Int) by omega, wrap6 _ (by omega)]
theorem hasMissed_any (r k : Nat) (w : World) (hr : r ≤ 12) (hk : k < 4096) : Calls Tryz.prog 145 #[.int .i64 (k : Int), .int .i64 (r : Int)] w fun e w' => e = .returned (.bool (k % 2 ^ r == 2 ^ r - 1)) ∧ w = w' := by
  have hh := hm_run hr hk
  go_enter Tryz.func145, Tryz.ntmps145
  go_wp2_with fail
  refine (missed_any _ _ hr).mono ?_
  rintro e w1 ⟨rfl, rfl⟩
  go_wp2_with fail
  refine (missed_any _ _ hr).mono ?_
  rintro e w1 ⟨rfl, rfl⟩
  go_wp2_with fail
  go_ret
  refine ⟨ret_bool ?_, rfl⟩
  rw [show (k : Int) % 2 ^ r = ((k % 2 ^ r : Nat) : Int) by simp, Bool.eq_iff_iff, beq_iff_eq, beq_iff_eq]
  unfold mN
  omega
theorem realPart_any (r k : Nat) (w : World) (hr : r ≤ 12) (hk : k < 4096) : Calls Tryz.prog 162 #[.int .i64 (k : Int), .int .i64 (r : Int)] w fun e w' => e = .returned (.int .i64 (rpN r k : Int)) ∧ w = w' := by
  have hh := rp_run hr hk
  go_enter Tryz.func162, Tryz.ntmps162
  go_wp2_with fail
  refine (missed_any _ _ hr).mono ?_
  rintro e w1 ⟨rfl, rfl⟩
  go_wp2_with fail
  go_ret
  exact ⟨rfl, rfl⟩
theorem lowestBit_any (x : Nat) (w : World) (hx : x < 4096) (h0 : x ≠ 0) : Calls Tryz.prog 163 #[.int .i64 (x : Int)] w fun e w' => e = .returned (.int .i64 (lowN x : Int)) ∧ w = w' := by
  have hh := low_run hx h0
  rw [show ((x - 1 : Nat) : Int) = (x : Int) - 1 by omega] at hh
  go_enter Tryz.func163, Tryz.ntmps163
  go_wp2_with fail
  go_ret
  exact ⟨rfl, rfl⟩
theorem hasBit_any (k b : Nat) (w : World) (hk : k < 4096) (hb : b ≤ 12) : Calls Tryz.prog 146 #[.int .i64 (k : Int), .int .i64 (b : Int)] w fun e w' => e = .returned (.bool (k / 2 ^ b % 2 == 1)) ∧ w = w' := by
  have hd := Nat.div_le_self k (2 ^ b)
  have hh := one_and (k / 2 ^ b) (by omega)
  rw [← cast_shr] at hh
  go_enter Tryz.func146, Tryz.ntmps146
  go_wp2_with fail
  go_ret
  refine ⟨ret_bool ?_, rfl⟩
  rw [cast_shr, Bool.eq_iff_iff, beq_iff_eq, beq_iff_eq]
  omega
theorem pcF_le (f : Nat) : ∀ x, pcF f x ≤ f := by
  induction f with
  | zero => intro x; exact Nat.le_refl _
  | succ f ih => intro x; have := ih (x / 2); unfold pcF; omega
theorem pc_le (x : Nat) : pc x ≤ 12 := pcF_le 12 x
theorem ones_any (x : Nat) (w : World) (hx : x < 4096) : Calls Tryz.prog 161 #[.int .i64 (x : Int)] w fun e w' => e = .returned (.int .i64 (pc x : Int)) ∧ w = w' := by
  go_enter Tryz.func161, Tryz.ntmps161
  go_wp2
  go_loop [0, 3] (fun k n => ∃ y m : Nat, y < 4096 ∧ m + pc y = pc x ∧ k = .int .i64 y ∧ n = .int .i64 m) (fun k _ => (intOf k).toNat)
  case atStart => exact ⟨x, 0, hx, by omega, rfl, rfl⟩
  case round =>
    obtain ⟨y, m, hy, hm, rfl, rfl⟩ := hrel
    have hpx := pc_le x
    by_cases h0 : y = 0
    · subst h0
      have hm' := Lib.hid (show m = pc x by rw [← hm]; rfl)
      clear hm
      go_wp2
      go_ret
      exact ⟨ret_int (by rw [hm'.out]), rfl⟩
    · have hd := pc_drop hy h0
      have hi := andI y (y - 1) (by omega) (by omega)
      rw [show ((y - 1 : Nat) : Int) = (y : Int) - 1 by omega] at hi
      have h1 : ¬ (y : Int) = 0 := by omega
      go_wp2
      go_round
      case rel => exact ⟨y &&& (y - 1), m + 1, by omega, by omega, rfl, by go_num⟩
      case measure => simp [intOf]; omega
end Go.Proofs.YtimkmieohkefiaaGreat

namespace Go.Proofs.YtimkmieohkefiaaGreat
open Go.RowKit

/-- A number, and no error. -/
abbrev okN (n : Nat) : Int × Int := ((n : Int), 0)
def isZ (k r v : Int) : Bool := frmB r v && (cdB k && isC r.toNat v.toNat k.toNat)
def nextZ (n r v : Int) : Int × Int :=
  if frmB r v = true ∧ 0 ≤ n then (if nxt r.toNat v.toNat n.toNat < 4096 then okN (nxt r.toNat v.toNat n.toNat) else (0, 15)) else (0, 2)
theorem frm_nat {r v : Int} (h : frmB r v = true) : ∃ R V : Nat, r = R ∧ v = V ∧ R ≤ 12 ∧ V ≤ 12 := by
  have := frmB_iff.1 h
  exact ⟨r.toNat, v.toNat, by omega, by omega, by omega, by omega⟩
theorem isZ_no {k r v : Int} (h : frmB r v = false) : isZ k r v = false := by unfold isZ; rw [h]; rfl
theorem isZ_cd {k r v : Int} (h : cdB k = false) : isZ k r v = false := by unfold isZ; rw [h]; simp
theorem frm_yes {R V : Nat} (hr : R ≤ 12) (hv : V ≤ 12) : frmB (R : Int) (V : Int) = true := frmB_iff.2 (by omega)
theorem isZ_nat {R V K : Nat} (hr : R ≤ 12) (hv : V ≤ 12) : isZ (K : Int) (R : Int) (V : Int) = isC R V K := by
  unfold isZ
  rw [frm_yes hr hv]
  by_cases h : K < 4096
  · rw [cdB_iff.2 (by omega)]; rfl
  · have e : isC R V K = false := Bool.eq_false_iff.2 (fun g => h (isC_iff.1 g).1)
    show (true && (cdB (K : Int) && isC R V K)) = _
    rw [e]; simp
theorem nextZ_bad {n r v : Int} (h : ¬ (frmB r v = true ∧ 0 ≤ n)) : nextZ n r v = (0, 2) := by unfold nextZ; rw [if_neg h]
theorem nextZ_nat {R V N : Nat} (hr : R ≤ 12) (hv : V ≤ 12) : nextZ (N : Int) (R : Int) (V : Int) = if nxt R V N < 4096 then okN (nxt R V N) else (0, 15) := by
  unfold nextZ
  rw [if_pos ⟨frm_yes hr hv, by omega⟩]; rfl
theorem nextZ_hit {R V N K : Nat} (hr : R ≤ 12) (hv : V ≤ 12) (h : N ≤ K) (hc : isC R V K = true) (hn : ∀ x, N ≤ x → x < K → isC R V x = false) : nextZ (N : Int) (R : Int) (V : Int) = okN K := by
  have hk := (isC_iff.1 hc).1
  have e : nxt R V N = K := by rw [nxt_skip h (by omega) hn, nxt_hit hc]
  rw [nextZ_nat hr hv, e, if_pos hk]
theorem nextZ_none {R V N K : Nat} (hr : R ≤ 12) (hv : V ≤ 12) (hk : 4096 ≤ K) (hn : ∀ x, N ≤ x → x < K → isC R V x = false) : nextZ (N : Int) (R : Int) (V : Int) = (0, 15) := by
  have e : ¬ nxt R V N < 4096 := fun g => by
    rcases nxt_is R V N with ⟨h1, h2, h3, _⟩ | ⟨h1, _⟩
    · rw [hn _ h2 (by omega)] at h3; cases h3
    · omega
  rw [nextZ_nat hr hv, if_neg e]
/-- The bits of a number from b on, and those below. -/
theorem mod_step (K b : Nat) : K % 2 ^ (b + 1) = K % 2 ^ b + 2 ^ b * (K / 2 ^ b % 2) := Nat.mod_pow_succ
/-- What Nth keeps: the bits from B on are found. -/
structure NtI (R V I0 B H I Vc : Nat) : Prop where
  rb : R ≤ B
  b12 : B ≤ 12
  mod : H % 2 ^ B = 0
  top : H + 2 ^ B ≤ 4096
  vc : Vc ≤ 12
  le : I ≤ I0
  cn : ∀ t, t ≤ 2 ^ B → cnt R V (H + t) = (I0 - I) + cnt R Vc t
  cd : ∀ t, t < 2 ^ B → isC R V (H + t) = isC R Vc t
  lt : I < cnt R Vc (2 ^ B)
theorem NtI.start {R V I0 : Nat} (hr : R ≤ 12) (hv : V ≤ 12) (h : I0 < cnt R V 4096) : NtI R V I0 12 0 I0 V :=
  ⟨hr, Nat.le_refl _, Nat.zero_mod _, by decide, hv, Nat.le_refl _, fun t _ => by rw [Nat.zero_add, Nat.sub_self, Nat.zero_add], fun t _ => by rw [Nat.zero_add], h⟩
theorem pow_dbl (b : Nat) : 2 ^ (b + 1) = 2 ^ b + 2 ^ b := by rw [Nat.pow_succ]; omega
theorem mod_half {H b : Nat} (h : H % 2 ^ (b + 1) = 0) : H % 2 ^ b = 0 :=
  Nat.mod_eq_zero_of_dvd (Nat.dvd_trans (Nat.pow_dvd_pow 2 (Nat.le_succ b)) (Nat.dvd_of_mod_eq_zero h))
theorem NtI.keep {R V I0 b H I Vc : Nat} (h : NtI R V I0 (b + 1) H I Vc) (hr : R ≤ b) (hi : I < cnt R Vc (2 ^ b)) : NtI R V I0 b H I Vc := by
  have hp := pow_dbl b
  have := h.top
  have := h.b12
  have := Nat.two_pow_pos b
  exact ⟨hr, by omega, mod_half h.mod, by omega, h.vc, h.le, fun t ht => h.cn t (by omega), fun t ht => h.cd t (by omega), hi⟩
theorem NtI.take {R V I0 b H I Vc : Nat} (h : NtI R V I0 (b + 1) H I Vc) (hr : R ≤ b) (hi : cnt R Vc (2 ^ b) ≤ I) :
    1 ≤ Vc ∧ NtI R V I0 b (H + 2 ^ b) (I - cnt R Vc (2 ^ b)) (Vc - 1) := by
  have hp := pow_dbl b
  have h1 := h.top
  have h2 := h.b12
  have h3 := h.lt
  have h4 := h.le
  have hc := h.vc
  cases Vc with
  | zero => rw [hp, cnt_none hr (by omega) (Nat.le_refl _)] at h3; omega
  | succ c =>
    refine ⟨by omega, hr, by omega, ?_, by omega, by omega, by omega, fun t ht => ?_, fun t ht => ?_, ?_⟩
    · exact add_mod0 (mod_half h.mod) (Nat.mod_self _)
    · have e := h.cn (2 ^ b + t) (by omega)
      rw [cnt_high hr (by omega) ht] at e
      rw [Nat.add_assoc, e, Nat.add_sub_cancel]; omega
    · have e := h.cd (2 ^ b + t) (by omega)
      rw [isC_high hr (by omega) ht] at e
      rw [Nat.add_assoc, e, Nat.add_sub_cancel]
    · rw [hp, cnt_high hr (by omega) (Nat.le_refl _)] at h3
      rw [Nat.add_sub_cancel]; omega
theorem NtI.done {R V I0 H I Vc : Nat} (h : NtI R V I0 R H I Vc) : isC R V (H + mN R) = true ∧ cnt R V (H + mN R) = I0 := by
  have hp := Nat.two_pow_pos R
  have h1 := h.lt
  have h4 := h.le
  rw [cnt_first h.b12] at h1
  unfold mN
  refine ⟨by rw [h.cd _ (by omega)]; exact isC_first h.b12, ?_⟩
  rw [h.cn _ (by omega), cnt_low (Nat.le_refl _)]; omega
/-- What Rank keeps. -/
structure RkI (R V K B acc Vc : Nat) : Prop where
  rb : R ≤ B
  b12 : B ≤ 12
  vc : Vc ≤ 12
  cd : isC R Vc (K % 2 ^ B) = true
  cn : cnt R V K = acc + cnt R Vc (K % 2 ^ B)
theorem RkI.start {R V K : Nat} (hr : R ≤ 12) (hv : V ≤ 12) (h : isC R V K = true) : RkI R V K 12 0 V := by
  have hk := (isC_iff.1 h).1
  have e : K % 2 ^ 12 = K := Nat.mod_eq_of_lt hk
  exact ⟨hr, Nat.le_refl _, hv, by rw [e]; exact h, by rw [e, Nat.zero_add]⟩
theorem RkI.keep {R V K b acc Vc : Nat} (h : RkI R V K (b + 1) acc Vc) (hr : R ≤ b) (hb : K / 2 ^ b % 2 ≠ 1) : RkI R V K b acc Vc := by
  have e : K % 2 ^ (b + 1) = K % 2 ^ b := by rw [mod_step, show K / 2 ^ b % 2 = 0 by omega, Nat.mul_zero, Nat.add_zero]
  have h1 := h.cd
  have h2 := h.cn
  have := h.b12
  rw [e] at h1 h2
  exact ⟨hr, by omega, h.vc, h1, h2⟩
theorem RkI.take {R V K b acc Vc : Nat} (h : RkI R V K (b + 1) acc Vc) (hr : R ≤ b) (hb : K / 2 ^ b % 2 = 1) : 1 ≤ Vc ∧ RkI R V K b (acc + cnt R Vc (2 ^ b)) (Vc - 1) := by
  have e : K % 2 ^ (b + 1) = 2 ^ b + K % 2 ^ b := by rw [mod_step, hb, Nat.mul_one, Nat.add_comm]
  have hm := Nat.mod_lt K (Nat.two_pow_pos b)
  have h1 := h.cd
  have h2 := h.cn
  have h3 := h.b12
  have hc := h.vc
  rw [e] at h1 h2
  cases Vc with
  | zero => rw [isC_none hr (by omega) hm] at h1; cases h1
  | succ c =>
    rw [isC_high hr (by omega) hm] at h1
    rw [cnt_high hr (by omega) (by omega)] at h2
    exact ⟨by omega, hr, by omega, by omega, h1, by rw [h2, Nat.add_sub_cancel]; omega⟩
theorem RkI.done {R V K acc Vc : Nat} (h : RkI R V K R acc Vc) : cnt R V K = acc := by
  have e := (isC_iff.1 h.cd).2.1
  rw [Nat.mod_mod] at e
  have := h.cn
  rw [e, cnt_low (Nat.le_refl _)] at this; exact this
end Go.Proofs.YtimkmieohkefiaaGreat

namespace Go.Proofs.YtimkmieohkefiaaGreat
open Go.RowKit

theorem powW {R : Nat} (hR : R ≤ 12) : IntKind.i64.wrap (2 ^ R) = ((2 ^ R : Nat) : Int) := by
  have := pow_le4096 hR
  have e : ((2 : Int) ^ R) = ((2 ^ R : Nat) : Int) := by simp
  rw [e, wrapI _ (by omega)]
end Go.Proofs.YtimkmieohkefiaaGreat

namespace Go.Proofs.YtimkmieohkefiaaGreat
open Go.RowKit

end Go.Proofs.YtimkmieohkefiaaGreat

namespace Go.Proofs.YtimkmieohkefiaaGreat
open Go.RowKit

/-- The bit length. -/
def lnF : Nat → Nat → Nat
  | 0, _ => 0
  | f + 1, x => if x = 0 then 0 else lnF f (x / 2) + 1
def ln (x : Nat) : Nat := lnF 12 x
theorem lnF_le (f : Nat) : ∀ x, lnF f x ≤ f := by
  induction f with
  | zero => intro x; exact Nat.le_refl _
  | succ f ih =>
    intro x
    show (if x = 0 then 0 else lnF f (x / 2) + 1) ≤ f + 1
    have := ih (x / 2)
    by_cases h : x = 0
    · rw [if_pos h]; omega
    · rw [if_neg h]; omega
theorem ln_le (x : Nat) : ln x ≤ 12 := lnF_le 12 x
def stepsZ (k : Int) : Int × Int := if cdB k = true then okN (ln k.toNat) else (0, 2)
theorem stepsZ_bad {k : Int} (h : ¬ cdB k = true) : stepsZ k = (0, 2) := by unfold stepsZ; rw [if_neg h]
theorem stepsZ_nat {K : Nat} (h : K < 4096) : stepsZ (K : Int) = okN (ln K) := by
  unfold stepsZ
  rw [if_pos (cdB_iff.2 (by omega))]; rfl
def ln256B (x : Nat) : Bool := decide (x < 256) || ln x == ln (x / 256) + 8
set_option maxRecDepth 100000 in
theorem ln256_all : allT ln256B 12 0 = true := by decide +kernel
theorem ln_256 {x : Nat} (h : x < 4096) (h8 : 256 ≤ x) : ln x = ln (x / 256) + 8 := by
  have e := allT_all ln256_all h
  unfold ln256B at e
  rw [decide_eq_false (by omega)] at e
  simpa using e
set_option maxRecDepth 100000 in
theorem len64_any (x : Nat) (w : World) (hx : x < 4096) : Calls Tryz.prog 165 #[.int .u64 (x : Int)] w fun e w' => e = .returned (.int .i64 (ln x : Int)) ∧ w = w' := by
  have h16 : ¬ (65536 : Int) ≤ (x : Int) := by omega
  have h32 : ¬ (4294967296 : Int) ≤ (x : Int) := by omega
  by_cases h8 : 256 ≤ x
  · have h8' : (256 : Int) ≤ (x : Int) := by omega
    go_enter Tryz.func165, Tryz.ntmps165
    generalize hT : (ByteArray.mk _) = T
    have HT := Lib.hid (show T.size = 256 ∧ ∀ i, i < 256 → (T.data.getD i 0).toNat = ln i by
      rw [← hT]
      refine ⟨by decide +kernel, ?_⟩
      decide +kernel)
    clear hT
    generalize hQ : bodyPost _ _ _ = Q
    have HQ := Lib.hid hQ
    clear hQ
    go_upto_region 4 with fail
    go_upto_region 7 with fail
    go_upto_region 10 with fail
    obtain ⟨X, hX⟩ : ∃ X, X = x / 256 := ⟨_, rfl⟩
    have hc : (x : Int) / 256 = (X : Int) := by omega
    have hXl : X < 16 := by omega
    have hL := Lib.hid (show ln x = ln X + 8 by rw [hX]; exact ln_256 hx h8)
    rw [hc]
    clear hX hc
    have hsz := HT.out.1
    have hXs : X < T.size := by omega
    have HV := Lib.hid (show T[X].toNat = ln X from by
      have e := HT.out.2 X (by omega)
      rw [← e]
      unfold Array.getD
      rw [dif_pos (show X < T.data.size from hXs)]
      rfl)
    clear HT
    have hXi : (X : Int) < (T.size : Int) := by omega
    have WU : IntKind.u8.wrap (X : Int) = (X : Int) := IntWalk.u8_in _ (by omega)
    have hln := ln_le X
    have hb := HV.out
    clear hsz
    go_wp2_with fail
    rw [← HQ.out]
    go_ret
    exact ⟨ret_int (by rw [hL.out, ← HV.out]; first | done | omega | (unfold wrap64; omega)), rfl⟩
  · have h8' : ¬ (256 : Int) ≤ (x : Int) := by omega
    go_enter Tryz.func165, Tryz.ntmps165
    generalize hT : (ByteArray.mk _) = T
    have HT := Lib.hid (show T.size = 256 ∧ ∀ i, i < 256 → (T.data.getD i 0).toNat = ln i by
      rw [← hT]
      refine ⟨by decide +kernel, ?_⟩
      decide +kernel)
    clear hT
    generalize hQ : bodyPost _ _ _ = Q
    have HQ := Lib.hid hQ
    clear hQ
    go_upto_region 4 with fail
    go_upto_region 7 with fail
    go_upto_region 10 with fail
    obtain ⟨X, hX⟩ : ∃ X, X = x := ⟨_, rfl⟩
    have hXl : X < 256 := by omega
    have hL := Lib.hid (show ln x = ln X by rw [hX])
    rw [← hX]
    clear hX
    have hsz := HT.out.1
    have hXs : X < T.size := by omega
    have HV := Lib.hid (show T[X].toNat = ln X from by
      have e := HT.out.2 X (by omega)
      rw [← e]
      unfold Array.getD
      rw [dif_pos (show X < T.data.size from hXs)]
      rfl)
    clear HT
    have hXi : (X : Int) < (T.size : Int) := by omega
    have WU : IntKind.u8.wrap (X : Int) = (X : Int) := IntWalk.u8_in _ (by omega)
    have hln := ln_le X
    have hb := HV.out
    clear hsz
    go_wp2_with fail
    rw [← HQ.out]
    go_ret
    exact ⟨ret_int (by rw [hL.out, ← HV.out]; first | done | omega | (unfold wrap64; omega)), rfl⟩
theorem len_any (x : Nat) (w : World) (hx : x < 4096) : Calls Tryz.prog 136 #[.int .u64 (x : Int)] w fun e w' => e = .returned (.int .i64 (ln x : Int)) ∧ w = w' := by
  go_enter Tryz.func136, Tryz.ntmps136
  go_wp2_with fail
  refine (len64_any x _ hx).mono ?_
  rintro e w' ⟨rfl, rfl⟩
  go_wp2
  go_ret
  exact ⟨rfl, rfl⟩
theorem steps_any (k : Int) (w : World) : Calls Tryz.prog 89 #[.int .i64 k] w fun e w' => e = .returned (R2 (stepsZ k)) ∧ w = w' := by
  cases h : cdB k
  · have hz := Lib.hid (stepsZ_bad (k := k) (fun g => by rw [h] at g; cases g))
    go_enter Tryz.func89, Tryz.ntmps89
    go_wp2_with fail
    refine (isCode_any _ _).mono ?_
    rintro e w1 ⟨rfl, rfl⟩
    rw [h]
    go_wp2_with fail
    go_ret2
    exact ⟨ret_r2 hz.out, rfl⟩
  · obtain ⟨K, rfl⟩ := Int.eq_ofNat_of_zero_le (cdB_iff.1 h).1
    have hK : K < 4096 := by have := (cdB_iff.1 h).2; omega
    have hz := Lib.hid (stepsZ_nat hK)
    have hw : IntKind.u64.wrap (K : Int) = (K : Int) := IntWalk.u64_in _ (by omega)
    go_enter Tryz.func89, Tryz.ntmps89
    go_wp2_with fail
    refine (isCode_any _ _).mono ?_
    rintro e w1 ⟨rfl, rfl⟩
    rw [h]
    clear h
    go_wp2_with fail
    refine (len_any _ _ hK).mono ?_
    rintro e w1 ⟨rfl, rfl⟩
    go_wp2_with fail
    go_ret2
    exact ⟨ret_r2 hz.out, rfl⟩
end Go.Proofs.YtimkmieohkefiaaGreat

namespace Go.Proofs.YtimkmieohkefiaaGreat
open Go.RowKit

/-- The round of item y. -/
def rnd (l : List It) (y : Nat) : Int := (l.getD y it0).2.2.1
/-- What a valid job's numbers keep. -/
structure FormOk (l : List It) (wt : Int) : Prop where
  rb : ∀ y, y < l.length → 0 ≤ rnd l y ∧ rnd l y ≤ 12
  wb : 0 ≤ wt ∧ wt ≤ 12
  blk : BlkOk l
theorem formOk_of {l : List It} {wt : Int} (h : validR l wt = 0) : FormOk l wt := by
  obtain ⟨h1, h2, h3⟩ := valid_ok h
  refine ⟨fun y hy => (h2 _ (getD_memI hy)).2.2.1, ?_, h3⟩
  unfold validR at h
  rw [if_neg (by omega)] at h
  by_cases g : btw wt 0 12 = true
  · exact btw_iff.1 g
  · rw [if_neg g] at h; omega
/-- What next answers. -/
theorem nextI {n r wt : Int} (hn : 0 ≤ n) (hr : 0 ≤ r ∧ r ≤ 12) (hw : 0 ≤ wt ∧ wt ≤ 12) :
    (∃ K : Nat, nextZ n r wt = okN K ∧ n ≤ K ∧ K < 4096 ∧ isC r.toNat wt.toNat K = true ∧ ∀ x : Nat, n ≤ x → x < K → isC r.toNat wt.toNat x = false) ∨
    (nextZ n r wt = (0, 15) ∧ ∀ x : Nat, n ≤ x → isC r.toNat wt.toNat x = false) := by
  have hf : frmB r wt = true := frmB_iff.2 (by omega)
  unfold nextZ
  rw [if_pos ⟨hf, hn⟩]
  rcases nxt_is r.toNat wt.toNat n.toNat with ⟨h1, h2, h3, h4⟩ | ⟨h1, h2⟩
  · rw [if_pos h1]
    exact Or.inl ⟨_, rfl, by omega, h1, h3, fun x a b => h4 x (by omega) b⟩
  · rw [if_neg (by omega)]
    exact Or.inr ⟨rfl, fun x a => h2 x (by omega)⟩
theorem next_mono {a b r wt : Int} (ha : 0 ≤ a) (hab : a ≤ b) (hr : 0 ≤ r ∧ r ≤ 12) (hw : 0 ≤ wt ∧ wt ≤ 12) {k : Int} (h : nextZ b r wt = (k, 0)) :
    ∃ j, nextZ a r wt = (j, 0) ∧ a ≤ j ∧ j ≤ k := by
  rcases nextI (n := b) (by omega) hr hw with ⟨K, e, h1, h2, h3, h4⟩ | ⟨e, _⟩
  · rw [e] at h
    have hk : k = K := by injection h with h; exact h.symm
    rcases nextI ha hr hw with ⟨J, e', g1, g2, g3, g4⟩ | ⟨e', g⟩
    · refine ⟨J, e', g1, ?_⟩
      rcases Nat.lt_or_ge K J with c | c
      · have := g4 K (by omega) c
        rw [h3] at this; cases this
      · omega
    · have := g K (by omega)
      rw [h3] at this; cases this
  · rw [e] at h; injection h with _ h; omega
theorem next_bd {n r wt k : Int} (hn : 0 ≤ n) (hr : 0 ≤ r ∧ r ≤ 12) (hw : 0 ≤ wt ∧ wt ≤ 12) (h : nextZ n r wt = (k, 0)) : n ≤ k ∧ k ≤ 4095 := by
  rcases nextI hn hr hw with ⟨K, e, h1, h2, _⟩ | ⟨e, _⟩
  · rw [e] at h; injection h with h; omega
  · rw [e] at h; injection h with _ h; omega
theorem next_err {n r wt : Int} (hn : 0 ≤ n) (hr : 0 ≤ r ∧ r ≤ 12) (hw : 0 ≤ wt ∧ wt ≤ 12) (h : (nextZ n r wt).2 ≠ 0) : nextZ n r wt = (0, 15) := by
  rcases nextI hn hr hw with ⟨K, e, _⟩ | ⟨e, _⟩
  · rw [e] at h; exact absurd rfl h
  · exact e

/-- Of the items in S, the bases and the least codes are found. -/
structure PSol (l : List It) (wt : Int) (S : Nat → Prop) (bs v : List Int) : Prop where
  vlen : v.length = l.length
  blen : bs.length = l.length
  sub : ∀ y, S y → y < l.length
  down : ∀ x y, S y → x < l.length → rel l x y ≠ 0 → S x
  base : ∀ y, S y → IsMaxP (fun x => x < l.length) (fun x => via l v x y) (bs.getD y 0)
  code : ∀ y, S y → nextZ (bs.getD y 0) (rnd l y) wt = (v.getD y 0, 0)
  rest : ∀ y, ¬ S y → v.getD y 0 = 0 ∧ bs.getD y 0 = 0
/-- All of them are found. -/
abbrev Sol (l : List It) (wt : Int) (bs v : List Int) : Prop := PSol l wt (fun y => y < l.length) bs v
theorem getD_zeros (n y : Nat) : (List.replicate n (0 : Int)).getD y 0 = 0 := by
  rw [List.getD_eq_getElem?_getD, List.getElem?_replicate]; split <;> rfl
theorem PSol.start (l : List It) (wt : Int) : PSol l wt (fun _ => False) (List.replicate l.length 0) (List.replicate l.length 0) :=
  ⟨by simp, by simp, fun _ h => h.elim, fun _ _ h => h.elim, fun _ h => h.elim, fun _ h => h.elim, fun y _ => ⟨getD_zeros _ _, getD_zeros _ _⟩⟩
theorem PSol.congr {l : List It} {wt : Int} {S S' : Nat → Prop} {bs v : List Int} (h : PSol l wt S bs v) (k : ∀ y, S y ↔ S' y) : PSol l wt S' bs v := by
  have e : S = S' := funext fun y => propext (k y)
  rw [← e]; exact h
theorem PSol.agree {l : List It} {wt : Int} {S S' : Nat → Prop} {bs v bs' v' : List Int} (hb : BlkOk l) (h : PSol l wt S bs v) (k : PSol l wt S' bs' v') :
    ∀ y, S y → S' y → v.getD y 0 = v'.getD y 0 ∧ bs.getD y 0 = bs'.getD y 0 := by
  have key : ∀ (n : Nat) (y : Nat), S y → S' y → blk l y < n → v.getD y 0 = v'.getD y 0 ∧ bs.getD y 0 = bs'.getD y 0 := by
    intro n
    induction n with
    | zero => intro y hy _ hn; have := (hb y (h.sub y hy)).1; omega
    | succ n ih =>
      intro y hy hy' hn
      have e : bs.getD y 0 = bs'.getD y 0 := (h.base y hy).uniq (k.base y hy') (fun x hx => via_same fun g => (ih x (h.down x y hy hx g) (k.down x y hy' hx g) (by have := (rel_pos g).2; omega)).1)
      have c := h.code y hy
      rw [e, k.code y hy'] at c
      injection c with c
      exact ⟨c.symm, e⟩
  intro y hy hy'
  exact key 32 y hy hy' (by have := (hb y (h.sub y hy)).2; omega)
theorem getD_ext {v v' : List Int} (h : v.length = v'.length) (k : ∀ y, y < v.length → v.getD y 0 = v'.getD y 0) : v = v' := by
  apply List.ext_getElem h
  intro i h1 h2
  have := k i h1
  rw [List.getD_eq_getElem?_getD, List.getElem?_eq_getElem h1, List.getD_eq_getElem?_getD, List.getElem?_eq_getElem h2] at this
  exact this
theorem Sol.uniq {l : List It} {wt : Int} {bs v bs' v' : List Int} (hb : BlkOk l) (h : Sol l wt bs v) (k : Sol l wt bs' v') : v = v' ∧ bs = bs' :=
  ⟨getD_ext (by rw [h.vlen, k.vlen]) (fun y hy => by rw [h.vlen] at hy; exact (h.agree hb k y hy hy).1),
   getD_ext (by rw [h.blen, k.blen]) (fun y hy => by rw [h.blen] at hy; exact (h.agree hb k y hy hy).2)⟩
theorem PSol.bound {l : List It} {wt : Int} {S : Nat → Prop} {bs v : List Int} (hf : FormOk l wt) (h : PSol l wt S bs v) : ∀ y, (0 ≤ v.getD y 0 ∧ v.getD y 0 ≤ 4095) ∧ (0 ≤ bs.getD y 0 ∧ bs.getD y 0 ≤ v.getD y 0) := by
  intro y
  by_cases hy : S y
  · have h0 := (h.base y hy).pos
    have := next_bd h0 (hf.rb y (h.sub y hy)) hf.wb (h.code y hy)
    omega
  · have := h.rest y hy; omega
theorem getDset {zs : List Int} {y : Nat} (h : y < zs.length) (M : Int) (x : Nat) : (zs.set y M).getD x 0 = if y = x then M else zs.getD x 0 := by
  rw [List.getD_eq_getElem?_getD, List.getElem?_set]
  by_cases e : y = x
  · rw [if_pos e, if_pos h, if_pos e]; rfl
  · rw [if_neg e, if_neg e, List.getD_eq_getElem?_getD]
theorem via_set {l : List It} {v : List Int} {x y z : Nat} {k : Int} (hy : y < v.length) (h : rel l y z = 0) : via l (v.set y k) x z = via l v x z :=
  via_same fun g => by
    rw [getDset hy]
    by_cases e : y = x
    · subst e; exact absurd h g
    · rw [if_neg e]
theorem rel_self (l : List It) (y : Nat) : rel l y y = 0 := rel_ge (Int.le_refl _)
/-- One more is found. -/
theorem PSol.step {l : List It} {wt : Int} {S : Nat → Prop} {bs v : List Int} (h : PSol l wt S bs v) {y : Nat} (hy : y < l.length) (hn : ¬ S y) (hd : ∀ x, x < l.length → rel l x y ≠ 0 → S x)
    {M k : Int} (hM : IsMaxP (fun x => x < l.length) (fun x => via l v x y) M) (hk : nextZ M (rnd l y) wt = (k, 0)) : PSol l wt (fun z => S z ∨ z = y) (bs.set y M) (v.set y k) := by
  have yv : y < v.length := by rw [h.vlen]; exact hy
  have yb : y < bs.length := by rw [h.blen]; exact hy
  have hz : ∀ z, S z → rel l y z = 0 := fun z hz => Decidable.byContradiction fun g => hn (h.down y z hz hy g)
  refine ⟨by rw [List.length_set]; exact h.vlen, by rw [List.length_set]; exact h.blen, fun z hz => ?_, fun x z hz hx g => ?_, fun z hs => ?_, fun z hs => ?_, fun z hs => ?_⟩
  · rcases hz with hz | rfl
    · exact h.sub z hz
    · exact hy
  · rcases hz with hz | rfl
    · exact Or.inl (h.down x z hz hx g)
    · exact Or.inl (hd x hx g)
  · rcases hs with hs | rfl
    · have hne : y ≠ z := fun e => by subst e; exact hn hs
      rw [getDset yb, if_neg hne]
      exact (h.base z hs).congr (fun _ => Iff.rfl) (fun x _ => (via_set yv (hz z hs)).symm)
    · rw [getDset yb, if_pos rfl]
      exact hM.congr (fun _ => Iff.rfl) (fun x _ => (via_set yv (rel_self l z)).symm)
  · rcases hs with hs | rfl
    · have hne : y ≠ z := fun e => by subst e; exact hn hs
      rw [getDset yb, if_neg hne, getDset yv, if_neg hne]
      exact h.code z hs
    · rw [getDset yb, if_pos rfl, getDset yv, if_pos rfl]
      exact hk
  · have hne : y ≠ z := fun e => hs (Or.inr e.symm)
    rw [getDset yb, if_neg hne, getDset yv, if_neg hne]
    exact h.rest z (fun g => hs (Or.inl g))
/-- Where next has no answer, nobody has a solution. -/
theorem PSol.fail {l : List It} {wt : Int} {S : Nat → Prop} {bs v : List Int} (hb : BlkOk l) (h : PSol l wt S bs v) {y : Nat} (hy : y < l.length) (hd : ∀ x, x < l.length → rel l x y ≠ 0 → S x)
    {M : Int} (hM : IsMaxP (fun x => x < l.length) (fun x => via l v x y) M) (hk : (nextZ M (rnd l y) wt).2 ≠ 0) : ∀ bs' v', ¬ Sol l wt bs' v' := by
  intro bs' v' k
  have e : M = bs'.getD y 0 := hM.uniq (k.base y hy) (fun x hx => via_same fun g => (h.agree hb k x (hd x hx g) hx).1)
  rw [e, k.code y hy] at hk
  exact hk rfl

/-- The chain that is found by going back from y, by the bases. -/
inductive IsBackB (l : List It) (v bs : List Int) : Nat → List Nat → Prop
  | one (y : Nat) : bs.getD y 0 ≤ 0 → IsBackB l v bs y [y]
  | step (y x : Nat) (c : List Nat) : 0 < bs.getD y 0 → x < l.length → via l v x y = bs.getD y 0 → (∀ z, z < x → via l v z y ≠ bs.getD y 0) → IsBackB l v bs x c → IsBackB l v bs y (c ++ [y])
theorem IsBackB.uniq {l : List It} {v bs : List Int} {y : Nat} {c d : List Nat} (h : IsBackB l v bs y c) (k : IsBackB l v bs y d) : c = d := by
  induction h generalizing d with
  | one y h =>
    cases k with
    | one _ _ => rfl
    | step _ x c h0 h1 h2 h3 h4 => omega
  | step y x c h0 h1 h2 h3 h4 ih =>
    cases k with
    | one _ g => omega
    | step _ x' c' g0 g1 g2 g3 g4 =>
      have : x = x' := by
        rcases Nat.lt_trichotomy x x' with g | g | g
        · exact absurd h2 (g3 x g)
        · exact g
        · exact absurd g2 (h3 x' g)
      subst this
      rw [ih g4]
theorem IsBackB.mem {l : List It} {v bs : List Int} {y : Nat} {c : List Nat} (h : IsBackB l v bs y c) (hy : y < l.length) : ∀ x ∈ c, x < l.length := by
  induction h with
  | one y h => intro x hx; rw [List.mem_singleton] at hx; omega
  | step y x c h0 h1 h2 h3 h4 ih =>
    intro z hz
    rcases List.mem_append.1 hz with g | g
    · exact ih h1 z g
    · rw [List.mem_singleton] at g; omega
/-- At most one for each block. -/
theorem IsBackB.len {l : List It} {v bs : List Int} {y : Nat} {c : List Nat} (hb : BlkOk l) (h : IsBackB l v bs y c) (hy : y < l.length) : (c.length : Int) ≤ blk l y + 1 := by
  induction h with
  | one y h => have := (hb y hy).1; simp; omega
  | step y x c h0 h1 h2 h3 h4 ih =>
    have g : rel l x y ≠ 0 := fun g => by rw [via_zero g] at h2; omega
    have := (rel_pos g).2
    have := ih h1
    rw [List.length_append]; simp; omega
theorem IsBackB.last {l : List It} {v bs : List Int} {y : Nat} {c : List Nat} (h : IsBackB l v bs y c) : ∃ d, c = d ++ [y] := by
  cases h with
  | one _ _ => exact ⟨[], rfl⟩
  | step _ x d _ _ _ _ _ => exact ⟨d, rfl⟩

/-- The bound of a chain of items: from the number n (of the item x, where there is one) on. -/
def bnd (l : List It) (wt : Int) : Option Nat → Int → List Nat → Int × Int
  | _, n, [] => (n, 0)
  | p, n, y :: c =>
    let m := match p with
      | none => n
      | some x => if rel l x y = 2 then n + 1 else n
    let t := nextZ m (rnd l y) wt
    if t.2 = 0 then bnd l wt (some y) t.1 c else (0, t.2)
/-- Each item of the list is one of the job and comes before the next one. -/
def chn (l : List It) : Option Nat → List Nat → Prop
  | _, [] => True
  | p, y :: c => y < l.length ∧ (∀ x, p = some x → rel l x y ≠ 0) ∧ chn l (some y) c
theorem bnd_nil (l : List It) (wt : Int) (p : Option Nat) (n : Int) : bnd l wt p n [] = (n, 0) := by cases p <;> rfl
theorem bnd_one (l : List It) (wt : Int) (n : Int) (y : Nat) (c : List Nat) : bnd l wt none n (y :: c) = if (nextZ n (rnd l y) wt).2 = 0 then bnd l wt (some y) (nextZ n (rnd l y) wt).1 c else (0, (nextZ n (rnd l y) wt).2) := rfl
theorem bnd_two (l : List It) (wt : Int) (x : Nat) (n : Int) (y : Nat) (c : List Nat) : bnd l wt (some x) n (y :: c) = if (nextZ (if rel l x y = 2 then n + 1 else n) (rnd l y) wt).2 = 0 then bnd l wt (some y) (nextZ (if rel l x y = 2 then n + 1 else n) (rnd l y) wt).1 c else (0, (nextZ (if rel l x y = 2 then n + 1 else n) (rnd l y) wt).2) := rfl
/-- A chain that goes back by the bases has the code of its last item as its bound. -/
theorem bnd_app (l : List It) (wt : Int) : ∀ (c : List Nat) (p : Option Nat) (n k : Int) (x y : Nat), bnd l wt p n (c ++ [x]) = (k, 0) → bnd l wt p n (c ++ [x] ++ [y]) = bnd l wt (some x) k [y] := by
  intro c
  induction c with
  | nil =>
    intro p n k x y h
    have hc : ∀ m, (if (nextZ m (rnd l x) wt).2 = 0 then bnd l wt (some x) (nextZ m (rnd l x) wt).1 [] else (0, (nextZ m (rnd l x) wt).2)) = (k, 0) → (if (nextZ m (rnd l x) wt).2 = 0 then bnd l wt (some x) (nextZ m (rnd l x) wt).1 [y] else (0, (nextZ m (rnd l x) wt).2)) = bnd l wt (some x) k [y] := fun m e => by
      by_cases g : (nextZ m (rnd l x) wt).2 = 0
      · rw [if_pos g, bnd_nil] at e
        injection e with e
        rw [if_pos g, e]
      · rw [if_neg g] at e
        injection e with _ e
        exact absurd e g
    cases p with
    | none => exact hc n h
    | some z => exact hc _ h
  | cons a c ih =>
    intro p n k x y h
    have hc : ∀ m, (if (nextZ m (rnd l a) wt).2 = 0 then bnd l wt (some a) (nextZ m (rnd l a) wt).1 (c ++ [x]) else (0, (nextZ m (rnd l a) wt).2)) = (k, 0) → (if (nextZ m (rnd l a) wt).2 = 0 then bnd l wt (some a) (nextZ m (rnd l a) wt).1 (c ++ [x] ++ [y]) else (0, (nextZ m (rnd l a) wt).2)) = bnd l wt (some x) k [y] := fun m e => by
      by_cases g : (nextZ m (rnd l a) wt).2 = 0
      · rw [if_pos g] at e ⊢
        exact ih (some a) _ k x y e
      · rw [if_neg g] at e
        injection e with _ e
        exact absurd e g
    cases p with
    | none => exact hc n h
    | some z => exact hc _ h
theorem chn_app (l : List It) : ∀ (c : List Nat) (p : Option Nat) (x y : Nat), chn l p (c ++ [x]) → y < l.length → rel l x y ≠ 0 → chn l p (c ++ [x] ++ [y]) := by
  intro c
  induction c with
  | nil => intro p x y h hy hr; exact ⟨h.1, h.2.1, hy, fun z e => by injection e with e; subst e; exact hr, trivial⟩
  | cons a c ih => intro p x y h hy hr; exact ⟨h.1, h.2.1, ih (some a) x y h.2.2 hy hr⟩
theorem IsBackB.bound {l : List It} {wt : Int} {bs v : List Int} (hf : FormOk l wt) (h : Sol l wt bs v) {y : Nat} {c : List Nat} (hy : y < l.length) (k : IsBackB l v bs y c) :
    chn l none c ∧ bnd l wt none 0 c = (v.getD y 0, 0) := by
  induction k with
  | one y g =>
    have e : bs.getD y 0 = 0 := by have := (h.base y hy).pos; omega
    have hk := h.code y hy
    rw [e] at hk
    refine ⟨⟨hy, (fun x e => (by cases e)), trivial⟩, ?_⟩
    rw [bnd_one, hk, if_pos rfl]; rfl
  | step y x c h0 h1 h2 h3 h4 ih =>
    obtain ⟨i1, i2⟩ := ih h1
    obtain ⟨d, rfl⟩ := h4.last
    have g : rel l x y ≠ 0 := fun g => by rw [via_zero g] at h2; omega
    refine ⟨chn_app l d none x y i1 hy g, ?_⟩
    rw [bnd_app l wt d none 0 _ x y i2, bnd_two]
    have e : (if rel l x y = 2 then v.getD x 0 + 1 else v.getD x 0) = bs.getD y 0 := by
      rw [← h2]; unfold via
      by_cases c2 : rel l x y = 2
      · rw [if_pos c2, if_pos c2]
      · rw [if_neg c2, if_neg c2, if_pos (by rcases rel_cases l x y with c | c | c <;> omega)]
    rw [e, h.code y hy, if_pos rfl]; rfl
end Go.Proofs.YtimkmieohkefiaaGreat

namespace Go.Proofs.YtimkmieohkefiaaGreat
open Go.RowKit Go.Shelf
attribute [local go_sem] Oper.semAt_some

/-- An index of an item. -/
abbrev Ix (l : List It) := { x : Nat // x < l.length }
/-- Those of block b, up to item k; those of the blocks below n. -/
def ordK (l : List It) (b : Nat) : Nat → List (Ix l)
  | 0 => []
  | k + 1 => if h : k < l.length ∧ blk l k = (b : Int) then ordK l b k ++ [⟨k, h.1⟩] else ordK l b k
def ordN (l : List It) : Nat → List (Ix l)
  | 0 => []
  | n + 1 => ordN l n ++ ordK l n l.length
theorem ordK_yes {l : List It} {b k : Nat} (h : k < l.length) (e : blk l k = (b : Int)) : ordK l b (k + 1) = ordK l b k ++ [⟨k, h⟩] := by
  show (if h : k < l.length ∧ blk l k = (b : Int) then ordK l b k ++ [⟨k, h.1⟩] else ordK l b k) = _
  rw [dif_pos ⟨h, e⟩]
theorem ordK_no {l : List It} {b k : Nat} (e : ¬ blk l k = (b : Int)) : ordK l b (k + 1) = ordK l b k := by
  show (if h : k < l.length ∧ blk l k = (b : Int) then ordK l b k ++ [⟨k, h.1⟩] else ordK l b k) = _
  rw [dif_neg (fun h => e h.2)]
theorem ordK_len (l : List It) (b k : Nat) : (ordK l b k).length ≤ k := by
  induction k with
  | zero => exact Nat.le_refl _
  | succ k ih =>
    unfold ordK
    split
    · rw [List.length_append, List.length_singleton]; omega
    · omega
theorem ordN_len (l : List It) (n : Nat) : (ordN l n).length ≤ n * l.length := by
  induction n with
  | zero => simp [ordN]
  | succ n ih =>
    unfold ordN
    have := ordK_len l n l.length
    rw [List.length_append, Nat.succ_mul]; omega
theorem ordK_mem {l : List It} {b k : Nat} {x : Ix l} : x ∈ ordK l b k ↔ x.1 < k ∧ blk l x.1 = (b : Int) := by
  induction k with
  | zero => simp [ordK]
  | succ k ih =>
    by_cases h : k < l.length ∧ blk l k = (b : Int)
    · rw [ordK_yes h.1 h.2, List.mem_append, List.mem_singleton, ih]
      constructor
      · rintro (⟨h1, h2⟩ | rfl)
        · exact ⟨by omega, h2⟩
        · exact ⟨Nat.lt_succ_self _, h.2⟩
      · rintro ⟨h1, h2⟩
        rcases Nat.lt_or_ge x.1 k with g | g
        · exact Or.inl ⟨g, h2⟩
        · exact Or.inr (Subtype.ext (by show x.1 = k; omega))
    · have : ordK l b (k + 1) = ordK l b k := by
        show (if h : k < l.length ∧ blk l k = (b : Int) then ordK l b k ++ [⟨k, h.1⟩] else ordK l b k) = _
        rw [dif_neg h]
      rw [this, ih]
      constructor
      · rintro ⟨h1, h2⟩; exact ⟨by omega, h2⟩
      · rintro ⟨h1, h2⟩
        refine ⟨?_, h2⟩
        rcases Nat.lt_or_ge x.1 k with g | g
        · exact g
        · have e : x.1 = k := by omega
          exact absurd ⟨by have := x.2; omega, by rw [← e]; exact h2⟩ h
theorem ordN_mem {l : List It} {n : Nat} {x : Ix l} : x ∈ ordN l n ↔ ∃ b, b < n ∧ blk l x.1 = ((b : Nat) : Int) := by
  induction n with
  | zero => simp [ordN]
  | succ n ih =>
    unfold ordN
    rw [List.mem_append, ih, ordK_mem]
    constructor
    · rintro (⟨b, h1, h2⟩ | ⟨h1, h2⟩)
      · exact ⟨b, by omega, h2⟩
      · exact ⟨n, Nat.lt_succ_self _, h2⟩
    · rintro ⟨b, h1, h2⟩
      rcases Nat.lt_or_ge b n with g | g
      · exact Or.inl ⟨b, g, h2⟩
      · have e : b = n := by omega
        subst e
        exact Or.inr ⟨x.2, h2⟩
theorem ordK_le (l : List It) (b : Nat) {k m : Nat} (h : k ≤ m) : ordK l b k <+: ordK l b m := by
  induction m with
  | zero => obtain rfl : k = 0 := by omega
            exact List.prefix_refl _
  | succ m ih =>
    by_cases e : k = m + 1
    · subst e; exact List.prefix_refl _
    · have := ih (by omega)
      rw [show ordK l b (m + 1) = (if h : m < l.length ∧ blk l m = (b : Int) then ordK l b m ++ [⟨m, h.1⟩] else ordK l b m) from rfl]
      split
      · exact this.trans (List.prefix_append _ _)
      · exact this
theorem ordN_le (l : List It) {n m : Nat} (h : n ≤ m) : ordN l n <+: ordN l m := by
  induction m with
  | zero => obtain rfl : n = 0 := by omega
            exact List.prefix_refl _
  | succ m ih =>
    by_cases e : n = m + 1
    · subst e; exact List.prefix_refl _
    · exact (ih (by omega)).trans (List.prefix_append _ _)
/-- Up to item k of block b: a beginning of the order. -/
theorem ord_pre (l : List It) {b k n : Nat} (hb : b < n) (hk : k ≤ l.length) : ordN l b ++ ordK l b k <+: ordN l n := by
  refine List.IsPrefix.trans ?_ (ordN_le l (show b + 1 ≤ n from hb))
  show _ <+: ordN l b ++ ordK l b l.length
  exact (List.prefix_append_right_inj _).2 (ordK_le l b hk)
abbrev encI {l : List It} (x : Ix l) : Array Value := #[.int .i64 (x.1 : Int)]
/-- What a round keeps: what lay below n₀, and the box of the list. -/
structure KpI (n₀ Ba : Nat) (W W' : World) : Prop where
  bel : Below n₀ W W'
  a : W'.heap[Ba]? = W.heap[Ba]?
  size : W.heap.size ≤ W'.heap.size
theorem KpI.t {n₀ Ba : Nat} {X Y Z : World} (h : KpI n₀ Ba X Y) (k : KpI n₀ Ba Y Z) : KpI n₀ Ba X Z := ⟨h.bel.trans k.bel, k.a.trans h.a, Nat.le_trans h.size k.size⟩
theorem KpI.of_below {n₀ Ba : Nat} {W W' : World} (h : Below W.heap.size W W') (h0 : n₀ ≤ W.heap.size) (ha : Ba < W.heap.size) : KpI n₀ Ba W W' := ⟨h.mono h0, h.block _ ha, h.size⟩
theorem KpI.refl {n₀ Ba : Nat} (W : World) : KpI n₀ Ba W W := ⟨Below.refl _ _, rfl, Nat.le_refl _⟩
theorem KpI.set {n₀ Ba : Nat} {X W : World} (h : KpI n₀ Ba X W) {p : Addr} (h0 : n₀ ≤ p.block) (ha : p.block ≠ Ba) (u : Value) : KpI n₀ Ba X (W.setCell p u) :=
  ⟨h.bel.setCell h0 u, (Below.heap_setCell _ _ _ _ (fun e => ha e.symm)).trans h.a, by rw [World.size_setCell]; exact h.size⟩
theorem KpI.put {n₀ Ba : Nat} {w : World} (hl : n₀ ≤ w.heap.size) (ha : Ba < w.heap.size) (W : World) (l : Nat) (o o' : Obj) (h1 : w.heap.size ≤ l) (h2 : W.heap[l]? = some o) (h3 : o.isCells = false) (h4 : o.isWalk = false) : KpI n₀ Ba W (W.putObj l o') := by
  have g := grownBy_putObj' W l o'
  have hlt := (Array.getElem?_eq_some_iff.1 h2).1
  exact ⟨(Below.refl n₀ W).grown g (by omega) (fun k e => by cases e; omega), g.block _ (by omega) (fun e => by cases e; omega), g.size⟩
theorem cell_heap {w w' : World} {b o : Nat} (h : w'.heap[b]? = w.heap[b]?) : w'.cell? ⟨b, o, none⟩ = w.cell? ⟨b, o, none⟩ := World.cell?_of_block (w := w) h
theorem abides_below {β : Type} {B : Nat} {J : β → World → Prop} (h : AbidesFrom B J) {s : β} {W W' : World} (hs : J s W) (b : Below W.heap.size W W') : J s W' :=
  h s W W' none hs ⟨b.os, b.tape, b.output, b.size, fun k hk _ => b.block k hk⟩ (fun r e => by cases e)
set_option maxRecDepth 100000 in
set_option maxHeartbeats 3200000 in
theorem bb_in (n : Nat) (hn : 1 ≤ n) (l : List It) (A : Option Addr) (c yl Ba n₀ : Nat) (J Jx : List (Ix l) → World → Prop) (hl : l.length ≤ 96)
    (hY : ∀ pre z W, J pre W → pre.length < 4000 → YieldAt Fence.wide (n - 1) Tryz.prog yl (encI z) W fun e W' =>
      (e = .returned (.bool true) ∧ J (pre ++ [z]) W' ∧ KpI n₀ Ba W W') ∨ (e = .returned (.bool false) ∧ Jx (pre ++ [z]) W'))
    (W : World) (hBa : W.cell? ⟨Ba, 0, none⟩ = some (.slice A l.length c)) (hn0 : n₀ ≤ W.heap.size)
    (hR : Row .i64 W n₀ A (flatI l)) (hJ : AbidesFrom W.heap.size J) (hj0 : J [] W) :
    CallsIn Fence.wide n Tryz.prog 168 #[.func (.yield yl) #[] #[], .pointer (some ⟨Ba, 0, none⟩)] W fun e W' => (∃ v, e = .returned v) ∧
      ((∃ ys, ys = ordN l 32 ∧ J ys W') ∨ (∃ pre, pre <+: ordN l 32 ∧ Jx pre W')) := by
  obtain ⟨L, hL⟩ : ∃ n, n = l.length := ⟨_, rfl⟩
  have HL := Lib.hid hL
  have HY := Lib.hid hY
  have HR := Lib.hid hR
  have HJ := Lib.hid hJ
  have HB := Lib.hid hBa
  have ha : Ba < W.heap.size := lt_of_cell hBa
  rw [← hL] at hBa hl
  clear hL hY hR hJ
  refine callsIn_of_wp Tryz.func168 rfl trivial ?_ rfl
  simp only [Tryz.ntmps168, List.size_toArray, List.length_cons, List.length_nil, Nat.reduceAdd, Nat.reduceSub, Array.replicate_succ, Array.replicate_zero, List.push_toArray, List.append_toArray, List.nil_append, List.cons_append]
  gi_wp2
  gi_loopw [6] (fun i wr => ∃ b : Nat, b ≤ 32 ∧ i = .int .i64 (b : Int) ∧ Hid (J (ordN l b) wr) ∧ Hid (KpI n₀ Ba W wr)) (fun i _ => 32 - (intOf i).toNat)
  case atStart => exact ⟨0, by omega, rfl, Lib.hid hj0, Lib.hid (KpI.refl _)⟩
  case round =>
    clear hj0
    obtain ⟨b, hb, rfl, hj, kp⟩ := hrel
    by_cases hlt : b < 32
    · have cA : wr.cell? ⟨Ba, 0, none⟩ = some (.slice A L c) := by rw [HL.out]; exact (cell_heap kp.out.a).trans HB.out
      have hd : decide ((b : Int) < 32) = true := decide_eq_true (by omega)
      gi_wp2
      clear cA
      have hj0 := Lib.hid (show J (ordN l b ++ ordK l b 0) wr by
        rw [show ordK l b 0 = [] from rfl, List.append_nil]; exact hj.out)
      clear hj
      gi_loopw [11] (fun i wi => ∃ k : Nat, k ≤ L ∧ i = .int .i64 (k : Int) ∧ Hid (J (ordN l b ++ ordK l b k) wi) ∧ Hid (KpI n₀ Ba W wi)) (fun i _ => L - (intOf i).toNat)
      case atStart => exact ⟨0, by omega, rfl, hj0, kp⟩
      case round =>
        clear hj0 kp
        obtain ⟨k, hk, rfl, hj, kp⟩ := hrel
        by_cases hlk : k < L
        · have sW : W.heap.size ≤ wr.heap.size := kp.out.size
          have hIR : IRow wr A l := ⟨(HR.out.under kp.out.bel).more (Nat.le_trans hn0 sW), by rw [← HL.out]; unfold maxLen; omega⟩
          obtain ⟨ad, rfl, C⟩ := hIR.at_ k (by rw [← HL.out]; exact hlk)
          have hbk : blk l k = (l.getD k it0).2.1 := rfl
          obtain ⟨⟨t, bl, r, g⟩, hp⟩ : ∃ p, p = l.getD k it0 := ⟨_, rfl⟩
          rw [← hp] at C hbk
          obtain ⟨c0, c1, c2, c3⟩ := C.spelt
          have b1 : Below wr.heap.size wr (wr.alloc (.cells #[.int .i64 t, .int .i64 bl, .int .i64 r, .int .i64 g] 52)) := (Below.refl _ _).alloc (Nat.le_refl _) _
          have HJ1 := Lib.hid (abides_below HJ.out hj.out b1)
          have HK1 := Lib.hid (kp.out.t (KpI.of_below b1 (Nat.le_trans hn0 sW) (Nat.lt_of_lt_of_le ha sW)))
          have q1 := (IPl.new (w := wr) (p := (t, bl, r, g)) (T := 52) wr.heap.size rfl).c1
          have HBK := Lib.hid hbk
          clear hIR C hp hj kp b1 sW hbk
          by_cases e : bl = (b : Int)
          · have HE := Lib.hid (show blk l k = (b : Int) from HBK.out.trans e)
            have hkl : k < l.length := by rw [← HL.out]; exact hlk
            have hlen : (ordN l b ++ ordK l b k).length < 4000 := by
              have h1 := ordN_len l b
              have h2 := ordK_len l b k
              have h3 : b * l.length ≤ 32 * l.length := Nat.mul_le_mul_right _ (by omega)
              have h4 := HL.out
              rw [List.length_append]; omega
            have hY' := HY.out (ordN l b ++ ordK l b k) ⟨k, hkl⟩ _ HJ1.out hlen
            dsimp only [YieldAt] at hY'
            have HPS := Lib.hid (show ordN l b ++ ordK l b k ++ [⟨k, hkl⟩] = ordN l b ++ ordK l b (k + 1) by rw [ordK_yes hkl HE.out, List.append_assoc])
            obtain ⟨fn, tmps, assign, body, hy, hR⟩ := hY'
            have hbe : (bl == (b : Int)) = true := by rw [e]; simp
            have HRR := Lib.hid hR
            clear hR hlen HBK e
            gi_wp2
            refine HRR.out.mono ?_
            rintro e W3 (⟨rfl, hJ3, hk3⟩ | ⟨rfl, hJx3⟩)
            · have HJ3 := Lib.hid (show J (ordN l b ++ ordK l b (k + 1)) W3 by rw [← HPS.out]; exact hJ3)
              have HK3 := Lib.hid (HK1.out.t hk3)
              clear hJ3 hk3 HJ1 HK1 HPS HRR hy hbe c0 c1 c2 c3 q1
              gi_wp2
              go_roundw
              case rel => exact ⟨k + 1, by omega, by simp, HJ3, HK3⟩
              case measure => simp [intOf]; omega
            · have HJx := Lib.hid (show ∃ pre, pre <+: ordN l 32 ∧ Jx pre W3 from ⟨_, by rw [HPS.out]; exact ord_pre l hlt (by omega), hJx3⟩)
              clear hJx3 HJ1 HK1 HPS HRR hy hbe c0 c1 c2 c3 q1
              gi_wp2
              refine bodyPost_ret (results_none rfl _ _ _) rfl ?_
              exact ⟨⟨_, rfl⟩, .inr HJx.out⟩
          · have HPS := Lib.hid (show ordK l b (k + 1) = ordK l b k from ordK_no (by rw [HBK.out]; exact e))
            have hbe : (bl == (b : Int)) = false := by simpa using e
            clear HBK e
            gi_wp2
            refine ⟨fun _ h => (by cases h), ?_⟩
            gi_wp2
            go_roundw
            case rel => exact ⟨k + 1, by omega, by simp, Lib.hid (by rw [HPS.out]; exact HJ1.out), HK1⟩
            case measure => simp [intOf]; omega
        · obtain rfl : k = L := by omega
          have HJ2 := Lib.hid (show J (ordN l (b + 1)) wr by
            rw [show ordN l (b + 1) = ordN l b ++ ordK l b l.length from rfl, ← HL.out]; exact hj.out)
          clear hj hlk hk
          gi_wp2
          go_roundw
          case rel => exact ⟨b + 1, by omega, by simp, HJ2, kp⟩
          case measure => simp [intOf]; omega
    · obtain rfl : b = 32 := by omega
      gi_wp2
      go_end0
      exact ⟨⟨_, rfl⟩, .inl ⟨_, rfl, hj.out⟩⟩
end Go.Proofs.YtimkmieohkefiaaGreat

namespace Go.Proofs.YtimkmieohkefiaaGreat
open Go.RowKit

theorem Row.news_of {k : IntKind} {w : World} {B : Nat} {ad : Addr} {zs : List Int} (h : Row k w B (some ad) zs) : ∀ j u, (zs.map (Value.int k))[j]? = some u → w.cell? (ad.add j) = some u := fun j u hj => by
  have hl : j < zs.length := by
    have := (List.getElem?_eq_some_iff.1 hj).1
    simpa using this
  obtain ⟨ad', e, _, hc⟩ := h j hl
  injection e with e
  subst e
  rw [hc]
  simp [List.getElem?_eq_getElem hl] at hj
  subst hj
  simp [List.getD, List.getElem?_eq_getElem hl]
theorem VRow.news_of {w : World} {B : Nat} {A : Option Addr} {vs : List Value} (h : VRow w B A vs) : ∀ ad, A = some ad → ∀ j u, vs[j]? = some u → w.cell? (ad.add j) = some u := fun ad e j u hj => by
  obtain ⟨ad', e', _, hc⟩ := h j u hj
  rw [e] at e'
  injection e' with e'
  subst e'
  exact hc
theorem wpList_app_src {P : Program} {w : World} {ops : Array Oper} {rest : List Oper} {o : Oper} {a : Act} {Q : Exit → Act → World → Prop} (hgn : o.guard = none) (s x : Operand) (t : TypeId)
    (ho : o.op = .call { callee := .builtin .append, args := #[s, x], argTypes := #[t, t] })
    (base : Nat) (e : TypeId) (i : TypeInfo) (z : Value) (size bytes : Nat) (ht : P.underlying t = some (.slice e)) (hi : P.info? e = some i) (hz : i.zero = some z)
    (hsize : i.size = size) (hby : i.bytes = bytes) (hzs : z.cells.size = size) (hsz : 0 < size)
    (v : Value) (n : Nat) (xs : List Value) (hs : a.eval s = v) (hown : w.ownsRow base e size v n xs)
    (A : Option Addr) (m c : Nat) (news : List Value) (hx : a.eval x = .slice A m c) (hA : A = none → m = 0 ∧ c = 0) (hl : news.length = m * size) (hnews : ∀ ad, A = some ad → ∀ j u, news[j]? = some u → w.cell? (ad.add j) = some u) (h1 : ∀ u ∈ news, u.oneCell' = true)
    (h63 : n + m ≤ maxLen) (hbytes : (n + m) * bytes ≤ 140737488355328) (hbase : base ≤ w.heap.size)
    (h : ∀ v' w', w'.ownsRow base e size v' (n + m) (xs ++ news) → w.grownBy w' v.ownBlock → wpList P ops Q rest (a.put o.dst v') w') : wpList P ops Q (o :: rest) a w := by
  cases A with
  | none =>
    obtain ⟨rfl, rfl⟩ := hA rfl
    have hn : news = [] := List.length_eq_zero_iff.1 (by rw [hl, Nat.zero_mul])
    subst hn
    refine wpList_append_own_none hgn s x t ho base e i size ht hi v n xs hs hown hx ?_
    exact h v w (by simpa using hown) (World.grownBy.refl w _)
  | some ad => exact wpList_append_own w hgn s x t ho base e i z size bytes ht hi hz hsize hby hzs hsz v n xs hs hown ad m c news hx hl (hnews ad rfl) h1 h63 hbytes hbase fun v' w' h2 h3 _ => h v' w' h2 h3
theorem Row.newsO {k : IntKind} {w : World} {B : Nat} {A : Option Addr} {zs : List Int} (h : Row k w B A zs) : ∀ ad, A = some ad → ∀ j u, (zs.map (Value.int k))[j]? = some u → w.cell? (ad.add j) = some u := fun ad e => by subst e; exact h.news_of
theorem own_empty {w : World} {e : TypeId} {m base : Nat} (hb : base ≤ w.heap.size) : (w.alloc (.cells #[] e)).ownsRow base e m (.slice (some ⟨w.heap.size, 0, none⟩) 0 0) 0 [] := by
  refine ⟨by simp, Or.inr ⟨w.heap.size, 0, #[], rfl, hb, ?_, Nat.le_refl _, by decide, by simp, by simp⟩⟩
  show (w.heap.push _)[w.heap.size]? = _
  rw [Array.getElem?_push, if_pos rfl]
theorem RRow.cut {α : Type} {R : Rec α} {w : World} {A : Option Addr} {l : List α} (h : RRow R w A l) (n c : Nat) (hc : l.length ≤ c) : RRow R w (if c = n then A else A.map (·.add (n * R.m))) (l.drop n) := by
  by_cases g : c = n
  · rw [if_pos g, List.drop_eq_nil_of_le (by omega)]
    exact RRow.nil
  · rw [if_neg g]
    cases A with
    | none =>
      have hl : l = [] := by
        cases l with
        | nil => rfl
        | cons x l => obtain ⟨ad, e, _⟩ := h.at_ (k := 0) (x := x) rfl; cases e
      subst hl
      rw [List.drop_nil]; exact RRow.nil
    | some ad => exact h.drop n
end Go.Proofs.YtimkmieohkefiaaGreat

namespace Go.Proofs.YtimkmieohkefiaaGreat
open Go.RowKit

end Go.Proofs.YtimkmieohkefiaaGreat

namespace Go.Proofs.YtimkmieohkefiaaGreat
open Go.RowKit

theorem infoIntW : (Tryz.prog.info? 3).map (fun i => (i.zero, i.size, i.bytes)) = some (some (.int .i64 0), 1, 8) := by kernel_rfl
abbrev OwnI (w : World) (base : Nat) (v : Value) (zs : List Int) : Prop := Own .i64 3 w base v zs
theorem add_sc (a : Addr) (j : Nat) : a.add (j + 1) = ⟨a.block, a.off + (j + 1), none⟩ := rfl
/-- A list that has just been laid. -/
theorem Own.laid {k : IntKind} {T : TypeId} (w : World) (base : Nat) (hb : base ≤ w.heap.size) (zs : List Int) (n : Nat) (hn : zs.length = n) (hm : n ≤ 1000000) : Own k T (w.alloc (.cells (zs.map (Value.int k)).toArray T)) base (.slice (some ⟨w.heap.size, 0, none⟩) n n) zs := by
  subst hn
  refine ⟨by simp, Or.inr ⟨w.heap.size, zs.length, (zs.map (Value.int k)).toArray, rfl, hb, ?_, Nat.le_refl _, by unfold maxLen; omega, by simp, by simp [List.take_of_length_le]⟩⟩
  show (w.heap.push _)[w.heap.size]? = _
  rw [Array.getElem?_push, if_pos rfl]
/-- What an append of one number leaves. -/
def AppI (base : Nat) (v : Value) (zs : List Int) (y : Int) (W : World) (v' : Value) (w' : World) : Prop :=
  Own .i64 3 w' base v' (zs ++ [y]) ∧ W.grownBy w' v.ownBlock ∧ ∃ g c, v' = .slice (some ⟨g, 0, none⟩) (zs.length + 1) c ∧ g < w'.heap.size ∧ (v.ownBlock = some g ∨ g = W.heap.size)
theorem news_one {w0 : World} {y : Int} : ∀ j u, ([y].map (Value.int .i64))[j]? = some u → (w0.alloc (.cells #[.int .i64 y] 3)).cell? ((⟨w0.heap.size, 0, none⟩ : Addr).add j) = some u := news_int (k := .i64) (W := w0) (T := 3) (ys := [y])
theorem wpList_appI (W : World) {ops : Array Oper} {rest : List Oper} {o : Oper} {a : Act} {Q : Exit → Act → World → Prop} (hgd : o.guard = none) (s x : Operand)
    (ho : o.op = .call { callee := .builtin .append, args := #[s, x], argTypes := #[22, 22] }) (base : Nat) (v : Value) (zs : List Int) (hs : a.eval s = v) (O : Own .i64 3 W base v zs)
    (y : Int) (w0 : World) (hW : W = w0.alloc (.cells #[.int .i64 y] 3)) (z : Nat) (hz : w0.heap.size = z) (c : Nat) (hx : a.eval x = .slice (some ⟨z, 0, none⟩) 1 c)
    (hl : zs.length + 1 ≤ 1000000000) (hb : base ≤ W.heap.size)
    (h : ∀ v' w', AppI base v zs y W v' w' → wpList Tryz.prog ops Q rest (a.put o.dst v') w') : wpList Tryz.prog ops Q (o :: rest) a W := by
  obtain ⟨i0, hi, hz0, hz1, hz2⟩ := info_parts infoIntW
  subst hz
  refine wpList_append_lies W hgd s x 22 ho base 3 i0 (.int .i64 0) 1 8 Tryz.underlying22 hi hz0 hz1 hz2 rfl (by decide) v zs.length (zs.map (Value.int .i64)) hs O ⟨w0.heap.size, 0, none⟩ 1 c ([y].map (Value.int .i64)) hx rfl (by rw [hW]; exact news_one) (one_cells (ys := [y])) (by decide) (by unfold maxLen; omega) (by omega) hb W.heap.size rfl ?_
  intro g cap w1 hown hg hat hlt
  exact h _ w1 ⟨Own.app (zs := zs) (ys := [y]) hown rfl rfl, hg, g, cap, rfl, hlt, hat⟩
theorem step_appI (W : World) {ops : Array Oper} {o : Oper} {a : Act} {K : Act → World → Prop} {Q : Exit → Act → World → Prop} {E : Prop} (hgd : o.guard = none) (s x : Operand)
    (ho : o.op = .call { callee := .builtin .append, args := #[s, x], argTypes := #[22, 22] }) (base : Nat) (v : Value) (zs : List Int) (hs : a.eval s = v) (O : Own .i64 3 W base v zs)
    (y : Int) (w0 : World) (hW : W = w0.alloc (.cells #[.int .i64 y] 3)) (z : Nat) (hz : w0.heap.size = z) (c : Nat) (hx : a.eval x = .slice (some ⟨z, 0, none⟩) 1 c)
    (hl : zs.length + 1 ≤ 1000000000) (hb : base ≤ W.heap.size)
    (h : ∀ v' w', AppI base v zs y W v' w' → K (a.put o.dst v') w') : if Region.wanted o (yielded ops a.tmps) = true then Oper.wp Tryz.prog o a W K Q else E := by
  obtain ⟨i0, hi, hz0, hz1, hz2⟩ := info_parts infoIntW
  subst hz
  refine step_append_lies W hgd s x 22 ho base 3 i0 (.int .i64 0) 1 8 Tryz.underlying22 hi hz0 hz1 hz2 rfl (by decide) v zs.length (zs.map (Value.int .i64)) hs O ⟨w0.heap.size, 0, none⟩ 1 c ([y].map (Value.int .i64)) hx rfl (by rw [hW]; exact news_one) (one_cells (ys := [y])) (by decide) (by unfold maxLen; omega) (by omega) hb W.heap.size rfl ?_
  intro g cap w1 hown hg hat hlt
  exact h _ w1 ⟨Own.app (zs := zs) (ys := [y]) hown rfl rfl, hg, g, cap, rfl, hlt, hat⟩
theorem le_allocW {w : World} {base : Nat} (h : base ≤ w.heap.size) {o : Obj} : base ≤ (w.alloc o).heap.size := Nat.le_trans h (by simp)
/-- Old memory behind such an append. -/
theorem AppI.below {base : Nat} {w wr w1 : World} {o : Obj} {vo v1 : Value} {zs : List Int} {y : Int} (A : AppI base vo zs y (wr.alloc o) v1 w1) (h : Below base w wr) (hb : base ≤ wr.heap.size) (O : Own .i64 3 wr base vo zs) : Below base w w1 :=
  (h.alloc hb o).grown A.2.1 (le_allocW hb) (fun j hj => (own_block O hj).1)
/-- What has grown since w1 is the list v, which was block g0, or is younger. -/
structure Gr (w1 : World) (g0 : Option Nat) (v : Value) (w' : World) : Prop where
  gr : w1.grownBy w' g0
  own : v.ownBlock = g0 ∨ ∀ g, v.ownBlock = some g → w1.heap.size ≤ g
theorem Gr.refl (w : World) (v : Value) : Gr w v.ownBlock v w := ⟨World.grownBy.refl w _, Or.inl rfl⟩
theorem Gr.nil (w : World) (g0 : Option Nat) : Gr w g0 (.slice none 0 0) w := ⟨World.grownBy.refl w _, Or.inr (fun g h => by cases h)⟩
theorem Gr.alloc {w1 wr : World} {g0 : Option Nat} {v : Value} (h : Gr w1 g0 v wr) (o : Obj) : Gr w1 g0 v (wr.alloc o) :=
  ⟨⟨h.gr.os, h.gr.tape, h.gr.output, Nat.le_trans h.gr.size (by simp), fun k hk hn => (Below.heap_alloc _ _ _ (Nat.lt_of_lt_of_le hk h.gr.size)).trans (h.gr.block k hk hn)⟩, h.own⟩
theorem Gr.drewN {w1 wr : World} {g0 : Option Nat} {v : Value} (h : Gr w1 g0 v wr) (n : Nat) : Gr w1 g0 v (wr.drewN n) :=
  ⟨⟨h.gr.os, h.gr.tape, h.gr.output, h.gr.size, h.gr.block⟩, h.own⟩
theorem Gr.below {w1 wr w2 : World} {g0 : Option Nat} {v : Value} (h : Gr w1 g0 v wr) (b : Below wr.heap.size wr w2) : Gr w1 g0 v w2 :=
  ⟨⟨b.os.trans h.gr.os, b.tape.trans h.gr.tape, b.output.trans h.gr.output, Nat.le_trans h.gr.size b.size, fun k hk hn => (b.block k (Nat.lt_of_lt_of_le hk h.gr.size)).trans (h.gr.block k hk hn)⟩, h.own⟩
theorem Gr.app {w1 W w2 : World} {g0 : Option Nat} {base : Nat} {v v' : Value} {zs : List Int} {y : Int} (h : Gr w1 g0 v W) (A : AppI base v zs y W v' w2) : Gr w1 g0 v' w2 := by
  obtain ⟨_, hg, g, c, rfl, hlt, hat⟩ := A
  refine ⟨⟨hg.os.trans h.gr.os, hg.tape.trans h.gr.tape, hg.output.trans h.gr.output, Nat.le_trans h.gr.size hg.size, fun k hk hn => (hg.block k (Nat.lt_of_lt_of_le hk h.gr.size) ?_).trans (h.gr.block k hk hn)⟩, ?_⟩
  · intro e
    rcases h.own with ho | ho
    · rw [← ho] at hn; exact hn e
    · have := ho k e.symm; omega
  · rcases hat with hat | hat
    · rcases h.own with ho | ho
      · exact Or.inl (by rw [← ho, hat]; rfl)
      · exact Or.inr (fun g' hg' => by
          have e : g = g' := by simpa [Value.ownBlock] using hg'
          subst e; exact ho g hat)
    · refine Or.inr (fun g' hg' => ?_)
      have e : g = g' := by simpa [Value.ownBlock] using hg'
      subst e
      have := h.gr.size
      omega
theorem Gr.keep {k : IntKind} {T : TypeId} {w1 wr : World} {g0 : Option Nat} {v u : Value} {base : Nat} {zs : List Int} (h : Gr w1 g0 v wr) (O : Own k T w1 base u zs) (hn : u.ownBlock = none ∨ u.ownBlock ≠ g0) : Own k T wr base u zs := O.kept h.gr hn
theorem Gr.base {w w1 wr : World} {g0 : Option Nat} {v : Value} {B : Nat} (h : Gr w1 g0 v wr) (b : Below B w w1) (hB : B ≤ w1.heap.size) (h0 : ∀ g, g0 = some g → B ≤ g) : Below B w wr := b.grown h.gr hB h0
theorem Gr.cellAt {w1 wr : World} {g0 : Option Nat} {v : Value} {base n c1 : Nat} {a1 : Addr} {zs : List Int} (h : Gr w1 g0 v wr) (O : Own .i64 3 w1 base (.slice (some a1) n c1) zs)
    (hne : (Value.slice (some a1) n c1).ownBlock = none ∨ (Value.slice (some a1) n c1).ownBlock ≠ g0) (j : Nat) (hj : j < zs.length) : wr.cell? (a1.add j) = some (.int .i64 (zs.getD j 0)) := by
  obtain ⟨A, c, e, R, _⟩ := (h.keep O hne).slice
  injection e with e1 e2 e3
  subst e1
  obtain ⟨ad, e, _, hc⟩ := R j hj
  injection e with e
  subst e
  exact hc
theorem OwnI.read {w : World} {base : Nat} {v : Value} {zs : List Int} (h : Own .i64 3 w base v zs) : ∃ A c, v = .slice A zs.length c ∧ Row .i64 w w.heap.size A zs := by
  obtain ⟨A, c, e, R, _⟩ := h.slice
  exact ⟨A, c, e, R⟩
/-- A result of a list and an error. -/
def PairPost (l : List Int) (er : Int) (w : World) (e : Ending) (w' : World) : Prop := ∃ v, e = .returned (.tuple #[v, .int .i64 er]) ∧ Own .i64 3 w' w.heap.size v l ∧ Below w.heap.size w w'
theorem PairPost.mk' {l : List Int} {er : Int} {w w' : World} {v : Value} (h1 : Own .i64 3 w' w.heap.size v l) (h2 : Below w.heap.size w w') : PairPost l er w (.returned (.tuple #[v, .int .i64 er])) w' := ⟨v, rfl, h1, h2⟩
theorem PairPost.of {p : List Int × Int} {l : List Int} {er : Int} {w w' : World} {v : Value} (hp : p = (l, er)) (h1 : Own .i64 3 w' w.heap.size v l) (h2 : Below w.heap.size w w') : PairPost p.1 p.2 w (.returned (.tuple #[v, .int .i64 er])) w' := by
  subst hp; exact ⟨v, rfl, h1, h2⟩
theorem box1W (w : World) (o : Obj) : Below w.heap.size w (w.alloc o) := (Below.refl _ _).alloc (Nat.le_refl _) _
end Go.Proofs.YtimkmieohkefiaaGreat

namespace Go.Proofs.YtimkmieohkefiaaGreat
open Go.RowKit Go.Lib

/-- The cells of two items. -/
theorem IRow.two {w : World} {A : Option Addr} {l : List It} (h : IRow w A l) {x y : Nat} (hx : x < l.length) (hy : y < l.length) :
    ∃ ad : Addr, A = some ad ∧ w.cell? (ad.add (x * 4)) = some (.int .i64 (trn l x)) ∧ w.cell? ⟨(ad.add (x * 4)).block, (ad.add (x * 4)).off + 1, none⟩ = some (.int .i64 (blk l x)) ∧ w.cell? (ad.add (y * 4)) = some (.int .i64 (trn l y)) ∧ w.cell? ⟨(ad.add (y * 4)).block, (ad.add (y * 4)).off + 1, none⟩ = some (.int .i64 (blk l y)) := by
  obtain ⟨ad, rfl, C⟩ := h.at_ x hx
  obtain ⟨ad', e', D⟩ := h.at_ y hy
  obtain rfl : ad = ad' := by injection e'
  obtain ⟨c0, c1, _, _⟩ := C.spelt
  obtain ⟨d0, d1, _, _⟩ := D.spelt
  exact ⟨ad, rfl, c0, c1, d0, d1⟩
def NumPost (z : Int) (w : World) (e : Ending) (w' : World) : Prop := e = .returned (.int .i64 z) ∧ ∃ q, w' = w.drewN q
set_option maxHeartbeats 800000 in
theorem relation_any (l : List It) (A : Option Addr) (c : Nat) (x y : Nat) (hx : x < l.length) (hy : y < l.length) (w : World) (h : IRow w A l) :
    Calls Tryz.prog 157 #[.slice A l.length c, .int .i64 (x : Int), .int .i64 (y : Int)] w (NumPost (rel l x y) w) := by
  have hl : l.length ≤ 9223372036854775807 := h.len
  obtain ⟨ad, rfl, c0, c1, d0, d1⟩ := h.two hx hy
  have e : rel l x y = if trn l x ≠ trn l y ∨ blk l y ≤ blk l x then 0 else if y < x then 2 else 1 := rfl
  obtain ⟨L, hL⟩ : ∃ n, n = l.length := ⟨_, rfl⟩
  rw [← hL] at hx hy hl ⊢
  have x1 : (x : Int) < (L : Int) := by omega
  have y1 : (y : Int) < (L : Int) := by omega
  generalize rel l x y = r at *
  generalize trn l x = tx at *
  generalize trn l y = ty at *
  generalize blk l x = bx at *
  generalize blk l y = bY at *
  clear h hL hx hy
  by_cases h1 : tx = ty
  · subst h1
    by_cases h2 : bY ≤ bx
    · rw [if_pos (Or.inr h2)] at e
      subst e
      have hne : (tx != tx) = false := by simp
      go_enter Tryz.func157, Tryz.ntmps157
      go_wp2_with fail
      go_quiet (fail)
      go_wp2_with fail
      go_ret
      exact ⟨rfl, _, rfl⟩
    · rw [if_neg (fun g => by rcases g with g | g; exact g rfl; exact h2 g)] at e
      have hne : (tx != tx) = false := by simp
      have hge : ¬ bY ≤ bx := h2
      by_cases h3 : y < x
      · rw [if_pos h3] at e
        subst e
        have h3' : (y : Int) < (x : Int) := by omega
        go_enter Tryz.func157, Tryz.ntmps157
        go_wp2_with fail
        go_quiet (fail)
        go_wp2_with fail
        go_ret
        exact ⟨rfl, _, rfl⟩
      · rw [if_neg h3] at e
        subst e
        have h3' : ¬ (y : Int) < (x : Int) := by omega
        go_enter Tryz.func157, Tryz.ntmps157
        go_wp2_with fail
        go_quiet (fail)
        go_wp2_with fail
        go_ret
        exact ⟨rfl, _, rfl⟩
  · rw [if_pos (Or.inl h1)] at e
    subst e
    have hne : (tx != ty) = true := by simpa using h1
    go_enter Tryz.func157, Tryz.ntmps157
    go_wp2_with fail
    go_quiet (fail)
    go_wp2_with fail
    go_ret
    exact ⟨rfl, _, rfl⟩
end Go.Proofs.YtimkmieohkefiaaGreat

namespace Go.Proofs.YtimkmieohkefiaaGreat
open Go.RowKit Go.Lib

/-- Block b holds the job. -/
structure JBox (w : World) (b : Nat) (A : Option Addr) (n c : Nat) (wt : Int) : Prop where
  c0 : w.cell? ⟨b, 0, none⟩ = some (.slice A n c)
  c1 : w.cell? ⟨b, 1, none⟩ = some (.int .i64 wt)
  lt : b < w.heap.size
theorem JBox.below {w w' : World} {b n c B : Nat} {A : Option Addr} {wt : Int} (h : JBox w b A n c wt) (k : Below B w w') (hb : b < B) : JBox w' b A n c wt :=
  ⟨(k.cell (p := ⟨b, 0, none⟩) hb).trans h.c0, (k.cell (p := ⟨b, 1, none⟩) hb).trans h.c1, Nat.lt_of_lt_of_le h.lt k.size⟩
theorem JBox.new {w : World} {A : Option Addr} {n c : Nat} {wt : Int} (b : Nat) (hb : b = w.heap.size) : JBox (w.alloc (.cells #[.slice A n c, .int .i64 wt] 37)) b A n c wt := by
  subst hb; exact ⟨by rw [cell_new]; rfl, by rw [cell_new]; rfl, by simp⟩
theorem make_ints (w : World) (X : Nat) (hX : X ≤ 1000) : (Instr.makeSlice 22 (.int .i64 (X : Int)) (.int .i64 (X : Int))).run Tryz.prog w = .ok (.slice (some ⟨w.heap.size, 0, none⟩) X X) (w.alloc (.cells ((List.replicate X 0).map (Value.int .i64)).toArray 3)) := by
  obtain ⟨i0, hi, hz0, hz1, hz2⟩ := info_parts infoIntW
  have h := run_make (P := Tryz.prog) w 22 3 i0 (.int .i64 0) Tryz.underlying22 hi hz0 .i64 .i64 (X : Int) (X : Int) (by omega) (Int.le_refl _) (by rw [hz2]; omega) (by omega)
  rw [hz1, Int.toNat_natCast] at h
  have e : madeCells (Value.int .i64 0).cells (X * 1) = ((List.replicate X 0).map (Value.int .i64)).toArray := by
    rw [Nat.mul_one, List.map_replicate]
    apply Array.ext'
    refine List.ext_getElem? fun j => ?_
    unfold madeCells
    by_cases h : j < X
    · simp [h, Nat.mod_one, Value.cells]
    · simp [h]
  rw [e] at h
  exact h
end Go.Proofs.YtimkmieohkefiaaGreat

namespace Go.Proofs.YtimkmieohkefiaaGreat
open Go.RowKit

theorem loadVar_rec {α : Type} {R : Rec α} {T : TypeId} {d : TypeDesc} (hu : Tryz.prog.underlying T = some d) (hd : (match d with | .struct _ | .array _ _ => true | _ => false) = true) (hi : (Tryz.prog.info? T).map (·.size) = some R.m) {w : World} {b : Nat} {x : α} (h : RBlk R w b x) :
    (loadVar T ⟨b, 0, none⟩).run Tryz.prog w = .ok (.agg (R.cells x).toArray) w := by
  have hl : (loadCells ⟨b, 0, none⟩ (R.cells x).length).run Tryz.prog w = .ok (R.cells x).toArray w :=
    run_loadCells_list (P := Tryz.prog) w ⟨b, 0, none⟩ (R.cells x) (fun j v hv => by rw [add_own]; exact h.cs j v hv)
  rw [R.len] at hl
  cases hq : Tryz.prog.info? T with
  | none => rw [hq] at hi; cases hi
  | some i =>
    have hs : i.size = R.m := by simpa [hq] using hi
    have hagg : (isAgg T).run Tryz.prog w = .ok true w := by
      unfold isAgg
      rw [Sem.run_bind, run_underlying hu w]
      cases d <;> simp_all
    simp [loadVar, Sem.run_bind, hagg, sizeOf, typeInfo, hq, hs, hl]
theorem results_rec {α : Type} {R : Rec α} {fn : Func} {p : Tmp} {T : TypeId} {d : TypeDesc} (hf : fn.results = #[.cell p T]) (hu : Tryz.prog.underlying T = some d) (hd : (match d with | .struct _ | .array _ _ => true | _ => false) = true) (hi : (Tryz.prog.info? T).map (·.size) = some R.m) (tmps : Array Value) (w : World) (b : Nat) (x : α)
    (hp : tmps.getD p undef = .pointer (some ⟨b, 0, none⟩)) (h : RBlk R w b x) : (results fn tmps).run Tryz.prog w = .ok (.agg (R.cells x).toArray) w := by
  have hp' : tmps[p]?.getD undef = .pointer (some ⟨b, 0, none⟩) := by simpa using hp
  simp [results, hf, hp', asAddr, loadVar_rec hu hd hi h]
end Go.Proofs.YtimkmieohkefiaaGreat

namespace Go.Proofs.YtimkmieohkefiaaGreat
open Go.RowKit Go.Lib

theorem row_new {k : IntKind} {W : World} {T : TypeId} (ys : List Int) : Row k (W.alloc (.cells (ys.map (Value.int k)).toArray T)) (W.alloc (.cells (ys.map (Value.int k)).toArray T)).heap.size (some ⟨W.heap.size, 0, none⟩) ys := fun j hj =>
  ⟨_, rfl, by simp, by rw [add_own, cell_new]; simp [hj]⟩
theorem IRow.new {W : World} {T : TypeId} (l : List It) (h : l.length ≤ maxLen) : IRow (W.alloc (.cells ((flatI l).map (Value.int .i64)).toArray T)) (some ⟨W.heap.size, 0, none⟩) l := ⟨row_new (flatI l), h⟩
end Go.Proofs.YtimkmieohkefiaaGreat

namespace Go.Proofs.YtimkmieohkefiaaGreat
open Go.RowKit

/-- What Pick leaves: one of the numbers of the list. -/
def PickPost (m N : Nat) (P : Int → Prop) (w : World) (e : Ending) (w' : World) : Prop := ∃ v : Int, e = .returned (.int .i64 v) ∧ P v ∧ IsMk w' m N ∧ Moves m w w'

set_option maxHeartbeats 400000 in
theorem pick_any (m N : Nat) (P : Int → Prop) (b len cap : Nat) (w : World) (h : IsMk w m N) (hN : N ≤ 1000000000000) (h1 : 1 ≤ len) (h2 : len ≤ 1000000) (hb : b ≠ m) (hl : b < w.heap.size)
    (hc : ∀ i, i < len → ∃ z : Int, w.cell? ⟨b, i, none⟩ = some (.int .i64 z) ∧ P z) :
    Calls Tryz.prog 40 #[.pointer (some ⟨m, 0, none⟩), .slice (some ⟨b, 0, none⟩) len cap] w (PickPost m (N + 1) P w) := by
  have HC := Lib.hid hc
  clear hc
  go_enter Tryz.func40, Tryz.ntmps40
  go_wp2_with fail
  refine (next_any m N _ _ h hN (by omega) (by omega)).mono ?_
  rintro e w1 ⟨v, rfl, v1, v2, k1, k2⟩
  obtain ⟨i, rfl⟩ := Int.eq_ofNat_of_zero_le v1
  obtain ⟨z, hz, hp⟩ := HC.out i (by omega)
  have hz1 : w1.cell? ⟨b, i, none⟩ = some (.int .i64 z) := (k2.cell (p := ⟨b, i, none⟩) hl hb).trans hz
  have v3 : (i : Int) < (len : Int) := by omega
  go_wp2_with fail
  go_ret
  exact ⟨z, rfl, hp, k1, k2⟩

end Go.Proofs.YtimkmieohkefiaaGreat

namespace Go.Proofs.YtimkmieohkefiaaGreat
open Go.RowKit Go.Lib

/-- A made item: at most three trains, six blocks, a round up to four. -/
def okM (r : Int) (p : It) : Prop := (0 ≤ p.1 ∧ p.1 ≤ 2) ∧ (0 ≤ p.2.1 ∧ p.2.1 ≤ 5) ∧ (r ≤ p.2.2.1 ∧ p.2.2.1 ≤ 4) ∧ (80 ≤ p.2.2.2 ∧ p.2.2.2 ≤ 262)
/-- A made list behind round r. -/
def runM (r : Int) : List It → Prop
  | [] => True
  | p :: l => okM r p ∧ runM p.2.2.1 l
theorem runM_vw {r : Int} (hr : 0 ≤ r) {l : List It} (h : runM r l) : vwI r l = 0 := by
  induction l generalizing r with
  | nil => rfl
  | cons p l ih =>
    obtain ⟨h1, h2⟩ := h
    obtain ⟨⟨a1, a2⟩, ⟨b1, b2⟩, ⟨c1, c2⟩, ⟨d1, d2⟩⟩ := h1
    show (if okI p then (if p.2.2.1 < r then 12 else vwI p.2.2.1 l) else 2) = 0
    rw [if_pos ⟨⟨a1, by omega⟩, ⟨b1, by omega⟩, ⟨by omega, by omega⟩, ⟨by omega, by omega⟩⟩, if_neg (by omega)]
    exact ih (by omega) h2
end Go.Proofs.YtimkmieohkefiaaGreat

namespace Go.Proofs.YtimkmieohkefiaaGreat
open Go.RowKit Go.Lib

theorem JBox.moves {m : Nat} {w w' : World} {b n c : Nat} {A : Option Addr} {wt : Int} (h : JBox w b A n c wt) (k : Moves m w w') (hb : b ≠ m) : JBox w' b A n c wt :=
  ⟨(k.cell (p := ⟨b, 0, none⟩) h.lt hb).trans h.c0, (k.cell (p := ⟨b, 1, none⟩) h.lt hb).trans h.c1, Nat.lt_of_lt_of_le h.lt k.size⟩
theorem frozen_new (w : World) (cs : Array Value) (T : TypeId) (b j : Nat) (hb : b = w.heap.size) : (w.alloc (.cells cs T)).frozen? ⟨b, j, none⟩ = false := by
  subst hb
  have e : (w.alloc (.cells cs T)).heap[w.heap.size]? = some (.cells cs T) := by
    show (w.heap.push _)[w.heap.size]? = _
    rw [Array.getElem?_push, if_pos rfl]
  unfold World.frozen?; rw [e]; rfl
theorem JBox.put {w : World} {b n c n' c' : Nat} {A A' : Option Addr} {wt wt' : Int} (h : JBox w b A n c wt) : JBox ((w.setCell ⟨b, 0, none⟩ (.slice A' n' c')).setCell ⟨b, 1, none⟩ (.int .i64 wt')) b A' n' c' wt' := by
  have g : (w.setCell ⟨b, 0, none⟩ (.slice A' n' c')).cell? ⟨b, 1, none⟩ = some (.int .i64 wt) := by rw [World.cell?_setCell_other _ _ _ _ (by simp)]; exact h.c1
  refine ⟨?_, World.cell?_setCell_same _ _ _ g, by rw [World.size_setCell, World.size_setCell]; exact h.lt⟩
  rw [World.cell?_setCell_other _ _ _ _ (by simp)]; exact World.cell?_setCell_same _ _ _ h.c0
end Go.Proofs.YtimkmieohkefiaaGreat

namespace Go.Proofs.YtimkmieohkefiaaGreat
open Go.RowKit Go.Lib

/-- What Relation answers. -/
def relE (l : List It) (wt x y : Int) : Int × Int :=
  if validR l wt ≠ 0 then (0, validR l wt) else if btw x 0 ((l.length : Int) - 1) = true ∧ btw y 0 ((l.length : Int) - 1) = true then (rel l x.toNat y.toNat, 0) else (0, 2)
def RelPost (l : List It) (wt x y : Int) (w : World) (e : Ending) (w' : World) : Prop := e = .returned (R2 (relE l wt x y)) ∧ Below w.heap.size w w'
set_option maxHeartbeats 1600000 in
theorem relationF_any (l : List It) (A : Option Addr) (c : Nat) (wt x y : Int) (w : World) (h : IRow w A l) :
    Calls Tryz.prog 131 #[jv A l.length c wt, .int .i64 x, .int .i64 y] w (RelPost l wt x y w) := by
  have H := Lib.hid h
  have HM := Lib.hid h.len
  obtain ⟨L, hL⟩ : ∃ n, n = l.length := ⟨_, rfl⟩
  have HL := Lib.hid hL
  have HVL := Lib.hid (fun (W : World) (k : IRow W A l) => valid_any l A c wt W k)
  have HRE := Lib.hid (show relE l wt x y = if validR l wt ≠ 0 then (0, validR l wt) else if btw x 0 ((L : Int) - 1) = true ∧ btw y 0 ((L : Int) - 1) = true then (rel l x.toNat y.toNat, 0) else (0, 2) by rw [hL]; rfl)
  rw [← hL] at HVL ⊢
  have B0 := Lib.hid ((Below.refl w.heap.size w).alloc (Nat.le_refl _) (.cells #[.slice A L c, .int .i64 wt] 37))
  have J0 := Lib.hid (JBox.new (w := w) (A := A) (n := L) (c := c) (wt := wt) w.heap.size rfl)
  obtain ⟨b, hb⟩ : ∃ b, b = w.heap.size := ⟨_, rfl⟩
  clear h hL
  go_enter Tryz.func131, Tryz.ntmps131
  go_upto_region 1 with fail
  rw [← hb] at J0 ⊢
  generalize w.alloc (.cells #[.slice A L c, .int .i64 wt] 37) = w1 at *
  obtain ⟨j0, j1, jl⟩ := J0.out
  clear hb
  go_wp2_with fail
  refine (HVL.out w1 (H.out.below B0.out)).mono ?_
  rintro e w2 ⟨rfl, hB2⟩
  have J2 := Lib.hid (J0.out.below hB2 jl)
  have B2 := Lib.hid (B0.out.trans (hB2.mono B0.out.size))
  clear j0 j1 jl J0 B0 hB2 HVL
  obtain ⟨j0, j1, jl⟩ := J2.out
  by_cases he : validR l wt = 0
  · have hre := HRE.out
    rw [if_neg (fun g => g he)] at hre
    have HIX := Lib.hid (fun (x : Int) (W : World) => index_any A L c x (by rw [HL.out]; exact HM.out) W)
    rw [he]
    clear he HRE
    go_wp2_with fail
    refine (HIX.out x _).mono ?_
    rintro e w3 ⟨rfl, rfl⟩
    cases hx : btw x 0 ((L : Int) - 1)
    · rw [if_neg (fun g => by have := g.1; rw [hx] at this; cases this)] at hre
      have HRE := Lib.hid hre
      clear hre
      go_wp2_with fail
      go_ret2
      exact ⟨ret_r2 HRE.out, B2.out⟩
    · go_wp2_with fail
      refine (HIX.out y _).mono ?_
      rintro e w3 ⟨rfl, rfl⟩
      cases hy : btw y 0 ((L : Int) - 1)
      · rw [if_neg (fun g => by have := g.2; rw [hy] at this; cases this)] at hre
        have HRE := Lib.hid hre
        clear hre
        go_wp2_with fail
        go_ret2
        exact ⟨ret_r2 HRE.out, B2.out⟩
      · rw [if_pos ⟨hx, hy⟩] at hre
        have HRE := Lib.hid hre
        obtain ⟨x1, x2⟩ := btw_iff.1 hx
        obtain ⟨y1, y2⟩ := btw_iff.1 hy
        obtain ⟨X, rfl⟩ := Int.eq_ofNat_of_zero_le x1
        obtain ⟨Y, rfl⟩ := Int.eq_ofNat_of_zero_le y1
        have hrl := relation_any l A c X Y (by rw [← HL.out]; omega) (by rw [← HL.out]; omega) w3 (H.out.below B2.out)
        rw [← HL.out] at hrl
        have HRL := Lib.hid hrl
        clear hre hx hy x1 x2 y1 y2 hrl
        go_wp2_with fail
        refine HRL.out.mono ?_
        rintro e w3 ⟨rfl, q, rfl⟩
        go_wp2_with fail
        go_ret2
        exact ⟨ret_r2 HRE.out, bdn B2.out⟩
  · have hre := HRE.out
    rw [if_pos he] at hre
    have HRE := Lib.hid hre
    have hne : (validR l wt != 0) = true := bne_iff_ne.2 he
    clear he hre
    go_wp2_with fail
    go_ret2
    exact ⟨ret_r2 HRE.out, B2.out⟩
end Go.Proofs.YtimkmieohkefiaaGreat

namespace Go.Proofs.YtimkmieohkefiaaGreat
open Go.RowKit Go.Lib

theorem valid_of {l : List It} {wt : Int} (hl : l.length ≤ 96) (hr : runM 0 l) (hw : 0 ≤ wt ∧ wt ≤ 12) : validR l wt = 0 := by
  unfold validR
  rw [if_neg (by omega), if_pos (btw_iff.2 hw)]
  exact runM_vw (Int.le_refl _) hr
theorem relE_ok {l : List It} {wt : Int} (hv : validR l wt = 0) {x y : Nat} (hx : x < l.length) (hy : y < l.length) : relE l wt (x : Int) (y : Int) = (rel l x y, 0) := by
  unfold relE
  rw [if_neg (fun g => g hv), if_pos ⟨btw_iff.2 (by omega), btw_iff.2 (by omega)⟩]
  rfl
/-- What holds behind a made job that has been boxed. -/
structure JSt (w wr : World) (b : Nat) (A : Option Addr) (c : Nat) (l : List It) (wt : Int) : Prop where
  box : JBox wr b A l.length c wt
  fz : ∀ j, wr.frozen? ⟨b, j, none⟩ = false
  row : IRow wr A l
  bel : Below w.heap.size w wr
  val : validR l wt = 0
  run : runM 0 l
  wt_ : 0 ≤ wt ∧ wt ≤ 12
theorem JSt.below {w a a' : World} {b c : Nat} {A : Option Addr} {l : List It} {wt : Int} (h : JSt w a b A c l wt) (k : Below a.heap.size a a') : JSt w a' b A c l wt :=
  ⟨h.box.below k h.box.lt, fun j => (k.frozen (p := ⟨b, j, none⟩) h.box.lt).trans (h.fz j), h.row.below k, h.bel.trans (k.mono h.bel.size), h.val, h.run, h.wt_⟩
theorem JSt.drewN {w a : World} {b c : Nat} {A : Option Addr} {l : List It} {wt : Int} (h : JSt w a b A c l wt) (n : Nat) : JSt w (a.drewN n) b A c l wt := h.below ⟨rfl, rfl, rfl, Nat.le_refl _, fun _ _ => rfl⟩
theorem JSt.ok {w a : World} {b c : Nat} {A : Option Addr} {l : List It} {wt : Int} (h : JSt w a b A c l wt) : BlkOk l := (valid_ok h.val).2.2
/-- The boxed job. -/
theorem JSt.new {w w1 w2 : World} {A : Option Addr} {c M : Nat} {l : List It} {wt : Int} {m : Nat} (hm : m = w.heap.size) (B1 : Below w.heap.size w w1) (K : IsMk w1 m M)
    (O : IOwn 52 w2 w1.heap.size (.slice A l.length c) l) (hl : l.length ≤ 96) (hr : runM 0 l) (hw : 0 ≤ wt ∧ wt ≤ 12) (V : Moves m w1 w2) :
    JSt w (w2.alloc (.cells #[.slice A l.length c, .int .i64 wt] 37)) w2.heap.size A c l wt := by
  have B2 : Below w.heap.size w w2 := V.below B1 (by rw [hm]; exact Nat.le_refl _) B1.size
  exact ⟨JBox.new _ rfl, fun j => frozen_new _ _ _ _ _ rfl, O.irow.below ((Below.refl _ _).alloc (Nat.le_refl _) _), B2.alloc B2.size _, valid_of hl hr hw, hr, hw⟩
end Go.Proofs.YtimkmieohkefiaaGreat

namespace Go.Proofs.YtimkmieohkefiaaGreat
open Go.RowKit

theorem is_any (k r v : Int) (w : World) : Calls Tryz.prog 143 #[.int .i64 k, .int .i64 r, .int .i64 v] w fun e w' => e = .returned (.bool (isZ k r v)) ∧ w = w' := by
  go_enter Tryz.func143, Tryz.ntmps143
  go_wp2_with fail
  refine (isForm_any _ _ _).mono ?_
  rintro e w1 ⟨rfl, rfl⟩
  cases hf : frmB r v
  · have hz := Lib.hid (isZ_no (k := k) hf)
    go_wp2_with fail
    go_ret
    exact ⟨ret_bool hz.out.symm, rfl⟩
  · obtain ⟨R, V, rfl, rfl, hR, hV⟩ := frm_nat hf
    clear hf
    go_wp2_with fail
    refine (isCode_any _ _).mono ?_
    rintro e w1 ⟨rfl, rfl⟩
    cases hc : cdB k
    · have hz := Lib.hid (isZ_cd (r := (R : Int)) (v := (V : Int)) hc)
      go_wp2_with fail
      go_ret
      exact ⟨ret_bool hz.out.symm, rfl⟩
    · obtain ⟨K, rfl⟩ := Int.eq_ofNat_of_zero_le (cdB_iff.1 hc).1
      have hK : K < 4096 := by have := (cdB_iff.1 hc).2; omega
      clear hc
      have hz := Lib.hid (isZ_nat (K := K) hR hV)
      go_wp2_with fail
      refine (hasMissed_any _ _ _ hR hK).mono ?_
      rintro e w1 ⟨rfl, rfl⟩
      cases hm : (K % 2 ^ R == 2 ^ R - 1)
      · have hz2 := Lib.hid (show isC R V K = false by unfold isC; rw [hm]; simp)
        clear hm
        go_wp2_with fail
        go_ret
        exact ⟨ret_bool (by rw [hz.out, hz2.out]), rfl⟩
      · have hz2 := Lib.hid (show isC R V K = decide (pc (rpN R K) ≤ V) by unfold isC; rw [hm, rp_pc hK, decide_eq_true hK]; simp)
        clear hm
        have hq := Nat.lt_of_le_of_lt (rpN_le R K) hK
        go_wp2_with fail
        refine (realPart_any _ _ _ hR hK).mono ?_
        rintro e w1 ⟨rfl, rfl⟩
        go_wp2_with fail
        refine (ones_any _ _ hq).mono ?_
        rintro e w1 ⟨rfl, rfl⟩
        go_wp2_with fail
        go_ret
        exact ⟨ret_bool (by rw [hz.out, hz2.out]), rfl⟩

theorem or_lt {R N : Nat} (hR : R ≤ 12) (hN : N ≤ 9223372036854775807) : orN R N ≤ 9223372036854775807 := by
  have hp := Nat.two_pow_pos R
  have hd : N / 2 ^ R < 2 ^ (63 - R) := div_lt_pow (by omega) (by omega)
  have e : 2 ^ (63 - R) * 2 ^ R = 2 ^ 63 := by rw [← Nat.pow_add]; congr 1; omega
  have hm := Nat.mul_le_mul_right (2 ^ R) (show N / 2 ^ R + 1 ≤ 2 ^ (63 - R) from hd)
  rw [e, Nat.add_mul, Nat.one_mul] at hm
  unfold orN mN
  omega
set_option maxHeartbeats 800000 in
theorem next_codeA (N R V : Nat) (w : World) (hR : R ≤ 12) (hV : V ≤ 12) (hN : N ≤ 9223372036854775807) : Calls Tryz.prog 134 #[.int .i64 (N : Int), .int .i64 (R : Int), .int .i64 (V : Int)] w fun e w' => e = .returned (R2 (nextZ N R V)) ∧ w = w' := by
  have hfr := frm_yes hR hV
  go_enter Tryz.func134, Tryz.ntmps134
  go_wp2_with fail
  refine (isForm_any _ _ _).mono ?_
  rintro e w1 ⟨rfl, rfl⟩
  rw [hfr]
  clear hfr
  go_wp2_with fail
  refine (missed_any _ _ hR).mono ?_
  rintro e w1 ⟨rfl, rfl⟩
  have ho := or_run (n := N) hR (by omega)
  have hg := or_ge (r := R) (n := N)
  have hm0 := or_mod (r := R) (n := N)
  have hn0 : ∀ x, N ≤ x → x < orN R N → isC R V x = false := fun x h1 h2 => or_none h1 h2
  have hb0 : orN R N ≤ 9223372036854775807 := or_lt hR hN
  obtain ⟨K0, hK0⟩ : ∃ x, x = orN R N := ⟨_, rfl⟩
  rw [← hK0] at ho hg hm0 hn0 hb0
  clear hK0
  have HM0 := Lib.hid hm0
  have HN0 := Lib.hid hn0
  clear hm0 hn0
  go_wp2_with fail
  clear ho
  go_loop [8] (fun k => ∃ K : Nat, K ≤ 9223372036854775807 ∧ N ≤ K ∧ k = .int .i64 K ∧ Hid (K % 2 ^ R = 2 ^ R - 1) ∧ Hid (∀ x, N ≤ x → x < K → isC R V x = false)) (fun k => 4096 - (intOf k).toNat)
  case atStart => exact ⟨K0, by omega, hg, rfl, HM0, HN0⟩
  case round =>
    obtain ⟨K, hK, hNK, rfl, HM, HN⟩ := hrel
    by_cases hlt : K < 4096
    · have hlt' : (K : Int) ≤ 4095 := by omega
      have hq := Nat.lt_of_le_of_lt (rpN_le R K) hlt
      go_wp2_with fail
      refine (realPart_any _ _ _ hR hlt).mono ?_
      rintro e w1 ⟨rfl, rfl⟩
      go_wp2_with fail
      refine (ones_any _ _ hq).mono ?_
      rintro e w1 ⟨rfl, rfl⟩
      by_cases hp : pc (rpN R K) ≤ V
      · have hc := Lib.hid (nextZ_hit hR hV hNK (isC_iff.2 ⟨hlt, HM.out, by rw [← rp_pc hlt]; exact hp⟩) HN.out)
        have hp' : ¬ (V : Int) < (pc (rpN R K) : Int) := by omega
        clear hp
        go_wp2_with fail
        go_ret2
        exact ⟨ret_r2 hc.out, rfl⟩
      · have hst := next_step (w := V) hR hlt HM.out (by omega)
        have h0 : rpN R K ≠ 0 := fun e => by rw [e, pc_zero] at hp; omega
        have hlb := low_bd hq h0
        have hs1 := Lib.hid hst.1
        have hs2 := Lib.hid (show ∀ x, N ≤ x → x < K + lowN (rpN R K) → isC R V x = false from fun x h1 h2 => by
          rcases Nat.lt_or_ge x K with g | g
          · exact HN.out x h1 g
          · exact hst.2 x g h2)
        clear hst
        have hp' : (V : Int) < (pc (rpN R K) : Int) := by omega
        have hle := rpN_le R K
        clear hp
        go_wp2_with fail
        refine (realPart_any _ _ _ hR hlt).mono ?_
        rintro e w1 ⟨rfl, rfl⟩
        go_wp2_with fail
        refine (lowestBit_any _ _ hq h0).mono ?_
        rintro e w1 ⟨rfl, rfl⟩
        go_wp2_with fail
        go_round
        case rel => exact ⟨K + lowN (rpN R K), by omega, by omega, by go_num, hs1, hs2⟩
        case measure => simp [intOf]; omega
    · have hlt' : ¬ (K : Int) ≤ 4095 := by omega
      have hlt2 : (4095 : Int) < (K : Int) := by omega
      have hc := Lib.hid (nextZ_none hR hV (show 4096 ≤ K by omega) HN.out)
      go_wp2_with fail
      go_ret2
      exact ⟨ret_r2 hc.out, rfl⟩
theorem next_code (n r v : Int) (w : World) (hn : n ≤ 9223372036854775807) : Calls Tryz.prog 134 #[.int .i64 n, .int .i64 r, .int .i64 v] w fun e w' => e = .returned (R2 (nextZ n r v)) ∧ w = w' := by
  by_cases h : frmB r v = true ∧ 0 ≤ n
  · obtain ⟨R, V, rfl, rfl, hR, hV⟩ := frm_nat h.1
    obtain ⟨N, rfl⟩ := Int.eq_ofNat_of_zero_le h.2
    exact next_codeA N R V w hR hV (by omega)
  · have hz := Lib.hid (nextZ_bad h)
    go_enter Tryz.func134, Tryz.ntmps134
    go_wp2_with fail
    refine (isForm_any _ _ _).mono ?_
    rintro e w1 ⟨rfl, rfl⟩
    cases hf : frmB r v
    · go_wp2_with fail
      go_ret2
      exact ⟨ret_r2 hz.out, rfl⟩
    · have hn0 : n < 0 := by rw [hf] at h; simp at h; omega
      clear h hf
      go_wp2_with fail
      go_ret2
      exact ⟨ret_r2 hz.out, rfl⟩
end Go.Proofs.YtimkmieohkefiaaGreat

namespace Go.Proofs.YtimkmieohkefiaaGreat
open Go.RowKit Go.Lib

/-- The number that an item needs because of one with the number k. -/
def vk (r k : Int) : Int := if r = 2 then k + 1 else if r = 1 then k else 0
theorem via_vk (l : List It) (v : List Int) (x y : Nat) : via l v x y = vk (rel l x y) (v.getD x 0) := rfl
theorem vk_bd {r k : Int} (hk : 0 ≤ k) : 0 ≤ vk r k ∧ vk r k ≤ k + 1 := by
  unfold vk; split
  · omega
  · split <;> omega
/-- What relation and leastBehind leave. -/
def IntPost (z : Int) (w : World) (e : Ending) (w' : World) : Prop := e = .returned (.int .i64 z) ∧ Below w.heap.size w w'
set_option maxHeartbeats 800000 in
theorem yrel_any (l : List It) (A : Option Addr) (c L : Nat) (wt : Int) (hL : L = l.length) (hv : validR l wt = 0) (x y : Nat) (hx : x < L) (hy : y < L) (w : World) (h : IRow w A l) :
    Calls Tryz.prog 158 #[jv A L c wt, .int .i64 (x : Int), .int .i64 (y : Int)] w (IntPost (rel l x y) w) := by
  have hr := fun W k => relationF_any l A c wt (x : Int) (y : Int) W k
  unfold RelPost at hr
  rw [relE_ok hv (by omega) (by omega), ← hL] at hr
  have HR := Lib.hid hr
  have H := Lib.hid h
  have B0 := Lib.hid ((Below.refl w.heap.size w).alloc (Nat.le_refl _) (.cells #[.slice A L c, .int .i64 wt] 37))
  have J0 := Lib.hid (JBox.new (w := w) (A := A) (n := L) (c := c) (wt := wt) w.heap.size rfl)
  obtain ⟨b, hb⟩ : ∃ b, b = w.heap.size := ⟨_, rfl⟩
  clear h hr hL hx hy hv
  go_enter Tryz.func158, Tryz.ntmps158
  go_upto_region 1 with fail
  rw [← hb] at J0 ⊢
  generalize w.alloc (.cells #[.slice A L c, .int .i64 wt] 37) = w1 at *
  obtain ⟨j0, j1, jl⟩ := J0.out
  clear hb
  go_wp2_with fail
  refine (HR.out w1 (H.out.below B0.out)).mono ?_
  rintro e w2 ⟨rfl, hB2⟩
  have B2 := Lib.hid (B0.out.trans (hB2.mono B0.out.size))
  clear j0 j1 jl J0 B0 hB2 HR
  go_wp2_with fail
  go_ret
  exact ⟨rfl, B2.out⟩
set_option maxHeartbeats 800000 in
theorem lb_any (l : List It) (A : Option Addr) (c L : Nat) (wt : Int) (hL : L = l.length) (hv : validR l wt = 0) (x y : Nat) (k : Int) (hk : 0 ≤ k ∧ k ≤ 1000000) (hx : x < L) (hy : y < L) (w : World) (h : IRow w A l) :
    Calls Tryz.prog 133 #[jv A L c wt, .int .i64 (x : Int), .int .i64 k, .int .i64 (y : Int)] w (IntPost (vk (rel l x y) k) w) := by
  have HR := Lib.hid (fun W h => yrel_any l A c L wt hL hv x y hx hy W h)
  have H := Lib.hid h
  have hc := rel_cases l x y
  have e : vk (rel l x y) k = if rel l x y = 2 then k + 1 else if rel l x y = 1 then k else 0 := rfl
  generalize vk (rel l x y) k = z at *
  generalize rel l x y = r at *
  have B0 := Lib.hid ((Below.refl w.heap.size w).alloc (Nat.le_refl _) (.cells #[.slice A L c, .int .i64 wt] 37))
  have J0 := Lib.hid (JBox.new (w := w) (A := A) (n := L) (c := c) (wt := wt) w.heap.size rfl)
  obtain ⟨b, hb⟩ : ∃ b, b = w.heap.size := ⟨_, rfl⟩
  clear h hx hy hv hL
  go_enter Tryz.func133, Tryz.ntmps133
  go_upto_region 1 with fail
  rw [← hb] at J0 ⊢
  generalize w.alloc (.cells #[.slice A L c, .int .i64 wt] 37) = w1 at *
  obtain ⟨j0, j1, jl⟩ := J0.out
  clear hb
  rcases hc with g | g | g
  · subst g
    rw [if_neg (by decide), if_neg (by decide)] at e
    subst e
    go_wp2_with fail
    refine (HR.out w1 (H.out.below B0.out)).mono ?_
    rintro e w2 ⟨rfl, hB2⟩
    have B2 := Lib.hid (B0.out.trans (hB2.mono B0.out.size))
    clear j0 j1 jl J0 B0 hB2 HR
    go_wp2_with fail
    go_ret
    exact ⟨rfl, B2.out⟩
  · subst g
    rw [if_neg (by decide), if_pos rfl] at e
    subst e
    go_wp2_with fail
    refine (HR.out w1 (H.out.below B0.out)).mono ?_
    rintro e w2 ⟨rfl, hB2⟩
    have B2 := Lib.hid (B0.out.trans (hB2.mono B0.out.size))
    clear j0 j1 jl J0 B0 hB2 HR
    go_wp2_with fail
    go_ret
    exact ⟨rfl, B2.out⟩
  · subst g
    rw [if_pos rfl] at e
    subst e
    go_wp2_with fail
    refine (HR.out w1 (H.out.below B0.out)).mono ?_
    rintro e w2 ⟨rfl, hB2⟩
    have B2 := Lib.hid (B0.out.trans (hB2.mono B0.out.size))
    clear j0 j1 jl J0 B0 hB2 HR
    go_wp2_with fail
    go_ret
    exact ⟨rfl, B2.out⟩
theorem byB_any (A : Option Addr) (n c : Nat) (w : World) :
    Calls Tryz.prog 142 #[.slice A n c] w fun e w' => e = .returned (.func (.func 168) #[] #[.pointer (some ⟨w.heap.size, 0, none⟩)]) ∧ w' = w.alloc (.cells #[.slice A n c] 35) := by
  go_enter Tryz.func142, Tryz.ntmps142
  go_wp2_with fail
  go_ret
  exact ⟨rfl, rfl⟩
open Go.Shelf in
theorem bb_stops (n : Nat) (hn : 1 ≤ n) (l : List It) (A : Option Addr) (c Ba n₀ : Nat) (hl : l.length ≤ 96) (w : World)
    (hBa : w.cell? ⟨Ba, 0, none⟩ = some (.slice A l.length c)) (hn0 : n₀ ≤ w.heap.size) (hR : Row .i64 w n₀ A (flatI l)) :
    SeqStopsK Fence.wide n Tryz.prog 168 #[.pointer (some ⟨Ba, 0, none⟩)] (fun z : Ix l => encI z) (KpI n₀ Ba) (fun ys => ys = ordN l 32) (fun pre => pre <+: ordN l 32) 4000 w := fun yl J Jx W hW hJ hJx hY hj0 =>
  bb_in n hn l A c yl Ba n₀ J Jx hl hY W ((hW.cell (p := ⟨Ba, 0, none⟩) (lt_of_cell hBa)).trans hBa) (Nat.le_trans hn0 hW.size)
    (hR.under (hW.mono hn0)) hJ hj0
theorem ownFrom_stable {β : Type} {B : Nat} {I : β → World → Prop} (hs : ∀ s W, I s W → B ≤ W.heap.size) (h : ∀ s W W', I s W → Below B W W' → I s W') : OwnFrom B I :=
  fun s W W' row hI hg hr => h s W W' hI ((Below.refl B W).grown hg (hs s W hI) (fun k e => (hr k e).1))
end Go.Proofs.YtimkmieohkefiaaGreat

namespace Go.Proofs.YtimkmieohkefiaaGreat
open Go.RowKit Go.Lib Go.Shelf

/-- The marks ds, laid from block B on. -/
def Mks (B : Nat) (w : World) : List Deferred → Prop
  | [] => True
  | d :: ds => (∃ D, d = { target := .collected D, args := #[] } ∧ B ≤ D ∧ w.heap[D]? = some (.deferred (some [])) ∧ ∀ d' ∈ ds, d'.target ≠ .collected D) ∧ Mks B w ds
theorem Mks.imp {B : Nat} {w w' : World} : ∀ {ds : List Deferred}, (∀ D, ({ target := .collected D, args := #[] } : Deferred) ∈ ds → w.heap[D]? = some (.deferred (some [])) → w'.heap[D]? = some (.deferred (some []))) → Mks B w ds → Mks B w' ds
  | [], _, _ => trivial
  | d :: ds, h, ⟨⟨D, e, hB, hk, hn⟩, hs⟩ => ⟨⟨D, e, hB, h D (by rw [e]; exact List.mem_cons_self ..) hk, hn⟩, hs.imp (fun D' hm hk' => h D' (List.mem_cons_of_mem _ hm) hk')⟩
theorem leaves_marks {F : Fence} {n : Nat} {P : Program} {fn : Func} {tmps : Array Value} {R : Ending → World → Prop} {B : Nat} {J : World → Prop} (hJ : ∀ w D o o', J w → B ≤ D → w.heap[D]? = some o → o.isCells = false → J (w.putObj D o'))
    (hfin : ∀ w, J w → LeavesIn F n P fn tmps R [] .returning w) : ∀ (ds : List Deferred) (w : World), Mks B w ds → J w → LeavesInM F n P fn tmps R ds .returning w
  | [], w, _, hj => hfin w hj
  | d :: ds, w, ⟨⟨D, e, hB, hk, hn⟩, hs⟩, hj => by
    subst e
    refine ⟨by simp, .inl ⟨D, _, rfl, run_takeDeferred hk, ?_⟩⟩
    refine leaves_marks hJ hfin ds _ (hs.imp fun D' hm hk' => ?_) (hJ w D _ _ hj hB hk rfl)
    exact (World.putObj_heap_other (fun e => hn _ hm (by rw [e]))).trans hk'
theorem assign1 (t : Array Value) (p : Nat) (u : Value) : (#[p].zip #[u]).foldl (fun t (p, v) => t.setIfInBounds p v) t = t.setIfInBounds p u := by simp [Array.zip, Array.zipWith, Array.zipWithMAux]
/-- Two lists in a struct. -/
abbrev SD := (Option Addr × Nat × Nat) × (Option Addr × Nat × Nat)
/-- The solution's value. -/
abbrev sv (d : SD) : Value := .agg #[.slice d.1.1 d.1.2.1 d.1.2.2, .slice d.2.1 d.2.2.1 d.2.2.2]
theorem results_sol {fn : Func} (hf : fn.results = #[.cell 2 155, .cell 3 31]) (tmps : Array Value) (w : World) (b b3 : Nat) (d : SD) (er : Int) (h2 : tmps.getD 2 undef = .pointer (some ⟨b, 0, none⟩)) (h3 : tmps.getD 3 undef = .pointer (some ⟨b3, 0, none⟩)) (c0 : w.cell? ⟨b, 0, none⟩ = some (.slice d.1.1 d.1.2.1 d.1.2.2)) (c1 : w.cell? ⟨b, 1, none⟩ = some (.slice d.2.1 d.2.2.1 d.2.2.2)) (g : w.cell? ⟨b3, 0, none⟩ = some (.int .i64 er)) :
    (results fn tmps).run Tryz.prog w = .ok (.tuple #[sv d, .int .i64 er]) w := by
  have h2' : tmps[2]?.getD undef = .pointer (some ⟨b, 0, none⟩) := by simpa using h2
  have h3' : tmps[3]?.getD undef = .pointer (some ⟨b3, 0, none⟩) := by simpa using h3
  simp [results, hf, go_sem, h2', h3', c0, c1, g, asAddr]

/-- The order ascends by blocks, and has no item twice. -/
theorem ordK_pw (l : List It) (b k : Nat) : (ordK l b k).Pairwise (fun a c => blk l a.1 ≤ blk l c.1 ∧ a ≠ c) := by
  induction k with
  | zero => exact List.Pairwise.nil
  | succ k ih =>
    by_cases h : k < l.length ∧ blk l k = (b : Int)
    · rw [ordK_yes h.1 h.2, List.pairwise_append]
      refine ⟨ih, List.pairwise_singleton _ _, fun a ha c hc => ?_⟩
      rw [List.mem_singleton] at hc
      subst hc
      obtain ⟨h1, h2⟩ := ordK_mem.1 ha
      refine ⟨by rw [h2, h.2]; exact Int.le_refl _, fun e => ?_⟩
      have := congrArg Subtype.val e
      have e2 : a.1 = k := this
      omega
    · have : ordK l b (k + 1) = ordK l b k := by
        show (if h : k < l.length ∧ blk l k = (b : Int) then ordK l b k ++ [⟨k, h.1⟩] else ordK l b k) = _
        rw [dif_neg h]
      rw [this]; exact ih
theorem ordN_pw (l : List It) (n : Nat) : (ordN l n).Pairwise (fun a c => blk l a.1 ≤ blk l c.1 ∧ a ≠ c) := by
  induction n with
  | zero => exact List.Pairwise.nil
  | succ n ih =>
    show (ordN l n ++ ordK l n l.length).Pairwise _
    rw [List.pairwise_append]
    refine ⟨ih, ordK_pw l n _, fun a ha c hc => ?_⟩
    obtain ⟨b, h1, h2⟩ := ordN_mem.1 ha
    obtain ⟨h3, h4⟩ := ordK_mem.1 hc
    refine ⟨by rw [h2, h4]; omega, fun e => ?_⟩
    rw [e, h4] at h2; omega
/-- What stands ahead of an item in the order. -/
theorem ord_next {l : List It} (hb : BlkOk l) {pre : List (Ix l)} {z : Ix l} (h : pre ++ [z] <+: ordN l 32) :
    pre <+: ordN l 32 ∧ (∀ x, x < l.length → rel l x z.1 ≠ 0 → ∃ a ∈ pre, a.1 = x) ∧ ¬ ∃ a ∈ pre, a.1 = z.1 := by
  have h0 := (List.prefix_append pre [z]).trans h
  obtain ⟨suf, hs⟩ := h
  have hp := ordN_pw l 32
  rw [← hs, List.append_assoc, List.pairwise_append] at hp
  obtain ⟨_, p2, p3⟩ := hp
  have p2' := (List.pairwise_cons.1 p2).1
  refine ⟨h0, fun x hx hr => ?_, ?_⟩
  · have hlt := (rel_pos hr).2
    have hm : (⟨x, hx⟩ : Ix l) ∈ ordN l 32 := ordN_mem.2 ⟨(blk l x).toNat, by have := hb x hx; omega, by have := hb x hx; show blk l x = _; omega⟩
    rw [← hs, List.append_assoc, List.mem_append] at hm
    rcases hm with hm | hm
    · exact ⟨_, hm, rfl⟩
    · rcases List.mem_cons.1 hm with e | hm
      · have e2 := congrArg Subtype.val e
        have e3 : x = z.1 := e2
        rw [e3] at hlt; omega
      · have := (p2' _ hm).1
        have e3 : blk l z.1 ≤ blk l x := this
        omega
  · rintro ⟨a, ha, e⟩
    exact (p3 a ha z (List.mem_cons_self ..)).2 (Subtype.ext e)
theorem ord_all {l : List It} (hb : BlkOk l) (y : Nat) : (∃ z ∈ ordN l 32, z.1 = y) ↔ y < l.length := by
  constructor
  · rintro ⟨z, _, rfl⟩; exact z.2
  · intro hy
    exact ⟨⟨y, hy⟩, ordN_mem.2 ⟨(blk l y).toNat, by have := hb y hy; omega, by have := hb y hy; show blk l y = _; omega⟩, rfl⟩
/-- The greatest of a start and of what is needed because of the first k. -/
def bmx (l : List It) (v : List Int) (y : Nat) (b0 : Int) : Nat → Int
  | 0 => b0
  | k + 1 => max2 (bmx l v y b0 k) (via l v k y)
theorem bmx_max (l : List It) (v : List Int) (y k : Nat) : IsMaxP (fun x => x < k) (fun x => via l v x y) (bmx l v y 0 k) := by
  induction k with
  | zero => exact IsMaxP.start _
  | succ k ih => exact ih.more (y := k) (fun x => by omega) rfl
theorem bmx_bd {l : List It} {v : List Int} {y : Nat} {b0 : Int} (hv : ∀ y, 0 ≤ v.getD y 0 ∧ v.getD y 0 ≤ 4095) (h0 : 0 ≤ b0 ∧ b0 ≤ 4096) (k : Nat) : 0 ≤ bmx l v y b0 k ∧ bmx l v y b0 k ≤ 4096 := by
  induction k with
  | zero => exact h0
  | succ k ih =>
    have h1 := hv k
    have h2 := vk_bd (r := rel l k y) h1.1
    rw [← via_vk] at h2
    show 0 ≤ max2 (bmx l v y b0 k) (via l v k y) ∧ max2 (bmx l v y b0 k) (via l v k y) ≤ 4096
    unfold max2; split <;> omega
theorem set_self {zs : List Int} {y : Nat} (h : y < zs.length) : zs.set y (zs.getD y 0) = zs := by
  refine getD_ext (by rw [List.length_set]) (fun x _ => ?_)
  rw [getDset h]
  by_cases e : y = x
  · rw [if_pos e, e]
  · rw [if_neg e]
structure Nums (L : Nat) (bs v : List Int) : Prop where
  bl : bs.length = L
  vl : v.length = L
  vb : ∀ y, 0 ≤ v.getD y 0 ∧ v.getD y 0 ≤ 4095
  bb : ∀ y, 0 ≤ bs.getD y 0 ∧ bs.getD y 0 ≤ 4096
theorem Nums.zero (L : Nat) : Nums L (List.replicate L 0) (List.replicate L 0) :=
  ⟨by simp, by simp, fun y => by rw [getD_zeros]; omega, fun y => by rw [getD_zeros]; omega⟩
theorem Nums.put {L y : Nat} {bs v : List Int} (h : Nums L bs v) (hy : y < L) {M k : Int} (hM : 0 ≤ M ∧ M ≤ 4096) (hk : 0 ≤ k ∧ k ≤ 4095) : Nums L (bs.set y M) (v.set y k) := by
  refine ⟨by rw [List.length_set]; exact h.bl, by rw [List.length_set]; exact h.vl, fun x => ?_, fun x => ?_⟩
  · rw [getDset (by rw [h.vl]; exact hy)]; split
    · exact hk
    · exact h.vb x
  · rw [getDset (by rw [h.bl]; exact hy)]; split
    · exact hM
    · exact h.bb x
/-- What holds of the numbers behind a beginning of the order. -/
def Good (l : List It) (wt : Int) (pre : List (Ix l)) (bs v : List Int) : Prop := pre <+: ordN l 32 → PSol l wt (fun y => ∃ z ∈ pre, z.1 = y) bs v
theorem Good.step {l : List It} {wt : Int} {pre : List (Ix l)} {bs v : List Int} (hb : BlkOk l) (h : Good l wt pre bs v) (z : Ix l) {k : Int} (hk : nextZ (bmx l v z.1 (bs.getD z.1 0) l.length) (rnd l z.1) wt = (k, 0)) :
    Good l wt (pre ++ [z]) (bs.set z.1 (bmx l v z.1 (bs.getD z.1 0) l.length)) (v.set z.1 k) := fun hp => by
  obtain ⟨h1, h2, h3⟩ := ord_next hb hp
  have P := h h1
  rw [(P.rest z.1 h3).2] at hk ⊢
  refine (P.step z.2 h3 h2 (bmx_max l v z.1 l.length) hk).congr (fun y => ?_)
  constructor
  · rintro (⟨a, ha, e⟩ | e)
    · exact ⟨a, List.mem_append_left _ ha, e⟩
    · exact ⟨z, List.mem_append_right _ (List.mem_singleton.2 rfl), e.symm⟩
  · rintro ⟨a, ha, e⟩
    rcases List.mem_append.1 ha with ha | ha
    · exact Or.inl ⟨a, ha, e⟩
    · rw [List.mem_singleton] at ha; subst ha; exact Or.inr e.symm
theorem Good.fail {l : List It} {wt : Int} {pre : List (Ix l)} {bs v : List Int} (hb : BlkOk l) (h : Good l wt pre bs v) (z : Ix l) (hk : (nextZ (bmx l v z.1 (bs.getD z.1 0) l.length) (rnd l z.1) wt).2 ≠ 0) :
    pre ++ [z] <+: ordN l 32 → ∀ bs' v', ¬ Sol l wt bs' v' := fun hp => by
  obtain ⟨h1, h2, h3⟩ := ord_next hb hp
  have P := h h1
  rw [(P.rest z.1 h3).2] at hk
  exact P.fail hb z.2 h2 (bmx_max l v z.1 l.length) hk
theorem Good.stepN {l : List It} {wt : Int} {pre : List (Ix l)} {bs v : List Int} {N y : Nat} (hN : N = l.length) (hb : BlkOk l) (h : Good l wt pre bs v) (hy : y < l.length) {k : Int} (hk : nextZ (bmx l v y (bs.getD y 0) N) (rnd l y) wt = (k, 0)) :
    Good l wt (pre ++ [⟨y, hy⟩]) (bs.set y (bmx l v y (bs.getD y 0) N)) (v.set y k) := by
  subst hN; exact h.step hb ⟨y, hy⟩ hk
theorem Good.failN {l : List It} {wt : Int} {pre : List (Ix l)} {bs v : List Int} {N y : Nat} (hN : N = l.length) (hb : BlkOk l) (h : Good l wt pre bs v) (hy : y < l.length) (hk : (nextZ (bmx l v y (bs.getD y 0) N) (rnd l y) wt).2 ≠ 0) :
    pre ++ [⟨y, hy⟩] <+: ordN l 32 → ∀ bs' v', ¬ Sol l wt bs' v' := by
  subst hN; exact h.fail hb ⟨y, hy⟩ hk
theorem Good.start (l : List It) (wt : Int) : Good l wt [] (List.replicate l.length 0) (List.replicate l.length 0) := fun _ => (PSol.start l wt).congr (fun y => by simp)
theorem Good.done {l : List It} {wt : Int} {bs v : List Int} (hb : BlkOk l) (h : Good l wt (ordN l 32) bs v) : Sol l wt bs v := (h (List.prefix_refl _)).congr (ord_all hb)
theorem wpIn_range1 {α : Type} {n : Nat} {P : Program} {g : Operand} {p q : Tmp} {assign body : Code} {Q : Exit → Act → World → Prop} {a : Act} {w : World}
    (h1 : 1 ≤ n) {gf : Nat} {lb : Array Value} (hg : a.eval g = .func (.func gf) #[] lb) (eg : ∀ args w, (callFunc gf args).run P w = .ok (.enter gf args) w)
    {val : α → Value} {Kp : World → World → Prop} {S Sp : List α → Prop} {N : Nat} {w0 : World} (hseq : SeqStopsK Fence.wide (n - 1) P gf lb (fun x => #[val x]) Kp S Sp N w0)
    (hKr : ∀ W, Kp W W) (hKt : ∀ {A B C : World}, Kp A B → Kp B C → Kp A C) (hKb : ∀ (W : World) (l : Nat) (o o' : Obj), w.heap.size ≤ l → W.heap[l]? = some o → o.isCells = false → o.isWalk = false → Kp W (W.putObj l o')) (hb0 : Below w0.heap.size w0 w)
    (I : List α → World → Prop) (Ix : Code → List α → World → Prop) (hI : OwnFrom w.heap.size I) (hIx : ∀ c, OwnFrom w.heap.size (Ix c)) (h0 : I [] w)
    (hassign : ∀ (l : Nat) (x : α) (W : World) (K : Act → World → Prop), K { tmps := (a.tmps.setIfInBounds p (val x)).setIfInBounds q (val x), defers := [] } W →
      assign.wpIn (Fence.wide.inRound l) (n - 1 - 1) P (Exit.then K (fun _ _ _ => False)) { tmps := a.tmps.setIfInBounds p (val x), defers := [] } W)
    (hbody : ∀ (l : Nat) (pre : List α) (x : α) (W : World), I pre W → pre.length < N → body.wpIn (Fence.wide.inRound l) (n - 1 - 1) P (ownPostG w.heap.size Kp I Ix (pre ++ [x]) W) { tmps := (a.tmps.setIfInBounds p (val x)).setIfInBounds q (val x), defers := [] } W)
    (hdone : ∀ (D : Nat) (xs : List α) (W : World), w.heap.size ≤ D → S xs → I xs W → W.heap[D]? = some (.deferred (some [])) → Q .normal { a with defers := { target := .collected D, args := #[] } :: a.defers } W)
    (hstop : ∀ (D : Nat) (c : Code) (pre : List α) (W : World), w.heap.size ≤ D → Sp pre → Ix c pre W → W.heap[D]? = some (.deferred (some [])) → c.wpIn Fence.wide n P Q { a with defers := { target := .collected D, args := #[] } :: a.defers } W) :
    (Code.rangeFunc g #[p] assign body).wpIn Fence.wide n P Q a w := by
  refine wpIn_rangeFunc_ownH rfl h1 hg trivial eg hseq hKt hKb hb0 (fun _ => rfl) I Ix hI hIx h0 (fun x a' _ => a' = { tmps := (a.tmps.setIfInBounds p (val x)).setIfInBounds q (val x), defers := [] }) (fun _ _ => ownFrom_pure _ _) ?_ ?_ hdone hstop
  · intro l pre x W K hi hK
    rw [assign1]
    exact hassign l x W K (hK _ _ (KeepsFrom.refl _ _) (hKr _) hi rfl)
  · rintro l pre x a' W _ _ hi rfl hlen
    exact hbody l pre x W hi hlen
end Go.Proofs.YtimkmieohkefiaaGreat

namespace Go.Proofs.YtimkmieohkefiaaGreat
open Go.RowKit Go.Lib Go.Shelf
attribute [local go_sem] Oper.semAt_some

/-- What solve leaves: the slices of the bases and the codes, and the error. -/
def SolvePost (l : List It) (wt : Int) (w : World) (e : Ending) (w' : World) : Prop :=
  ∃ d er bs v, e = .returned (.tuple #[sv d, .int .i64 er]) ∧ Own .i64 3 w' w.heap.size (.slice d.1.1 d.1.2.1 d.1.2.2) bs ∧ Own .i64 3 w' w.heap.size (.slice d.2.1 d.2.2.1 d.2.2.2) v ∧ Below w.heap.size w w' ∧
    ((validR l wt ≠ 0 ∧ er = validR l wt ∧ v = [] ∧ bs = []) ∨ (validR l wt = 0 ∧ er = 15 ∧ v = [] ∧ bs = [] ∧ ∀ bs' v', ¬ Sol l wt bs' v') ∨ (validR l wt = 0 ∧ er = 0 ∧ Sol l wt bs v))
/-- The boxes of the call: the job, the result, the error. -/
structure SvA (w : World) (n : Nat) (A : Option Addr) (L c : Nat) (wt : Int) (wr : World) : Prop where
  bel : Below w.heap.size w wr
  box : JBox wr n A L c wt
  c20 : wr.cell? ⟨n + 1, 0, none⟩ = some (.slice none 0 0)
  c21 : wr.cell? ⟨n + 1, 1, none⟩ = some (.slice none 0 0)
  c3 : wr.cell? ⟨n + 1 + 1, 0, none⟩ = some (.int .i64 0)
  f2 : ∀ j, wr.frozen? ⟨n + 1, j, none⟩ = false
  f3 : ∀ j, wr.frozen? ⟨n + 1 + 1, j, none⟩ = false
  lt : n + 1 + 1 < wr.heap.size
theorem SvA.below {w wr w' : World} {n L c B : Nat} {A : Option Addr} {wt : Int} (h : SvA w n A L c wt wr) (k : Below B wr w') (hB : n + 1 + 1 < B) (hw : w.heap.size ≤ B) : SvA w n A L c wt w' :=
  ⟨h.bel.trans (k.mono hw), h.box.below k (by omega), (k.cell (p := ⟨n + 1, 0, none⟩) (by show n + 1 < B; omega)).trans h.c20, (k.cell (p := ⟨n + 1, 1, none⟩) (by show n + 1 < B; omega)).trans h.c21, (k.cell (p := ⟨n + 1 + 1, 0, none⟩) hB).trans h.c3,
    fun j => (k.frozen (p := ⟨n + 1, j, none⟩) (by show n + 1 < B; omega)).trans (h.f2 j), fun j => (k.frozen (p := ⟨n + 1 + 1, j, none⟩) hB).trans (h.f3 j), Nat.lt_of_lt_of_le h.lt k.size⟩
theorem SvA.new {w : World} {A : Option Addr} {L c : Nat} {wt : Int} : SvA w w.heap.size A L c wt (((w.alloc (.cells #[.slice A L c, .int .i64 wt] 37)).alloc (.cells #[.slice none 0 0, .slice none 0 0] 155)).alloc (.cells #[.int .i64 0] 31)) := by
  have s1 : (w.alloc (.cells #[.slice A L c, .int .i64 wt] 37)).heap.size = w.heap.size + 1 := by simp
  have B1 := (Below.refl w.heap.size w).alloc (Nat.le_refl _) (.cells #[.slice A L c, .int .i64 wt] 37)
  have J := JBox.new (w := w) (A := A) (n := L) (c := c) (wt := wt) w.heap.size rfl
  generalize w.alloc (.cells #[.slice A L c, .int .i64 wt] 37) = w1 at *
  have s2 : (w1.alloc (.cells #[.slice none 0 0, .slice none 0 0] 155)).heap.size = w1.heap.size + 1 := by simp
  have b2 := (Below.refl w1.heap.size w1).alloc (Nat.le_refl _) (.cells #[.slice none 0 0, .slice none 0 0] 155)
  have c0 : (w1.alloc (.cells #[.slice none 0 0, .slice none 0 0] 155)).cell? ⟨w1.heap.size, 0, none⟩ = some (.slice none 0 0) := by rw [cell_new]; rfl
  have c1 : (w1.alloc (.cells #[.slice none 0 0, .slice none 0 0] 155)).cell? ⟨w1.heap.size, 1, none⟩ = some (.slice none 0 0) := by rw [cell_new]; rfl
  have f2 := fun j => frozen_new w1 #[.slice none 0 0, .slice none 0 0] 155 w1.heap.size j rfl
  generalize w1.alloc (.cells #[.slice none 0 0, .slice none 0 0] 155) = w2 at *
  have s3 : (w2.alloc (.cells #[.int .i64 0] 31)).heap.size = w2.heap.size + 1 := by simp
  have b3 := (Below.refl w2.heap.size w2).alloc (Nat.le_refl _) (.cells #[.int .i64 0] 31)
  have c3 : (w2.alloc (.cells #[.int .i64 0] 31)).cell? ⟨w2.heap.size, 0, none⟩ = some (.int .i64 0) := by rw [cell_new]; rfl
  have f3 := fun j => frozen_new w2 #[.int .i64 0] 31 w2.heap.size j rfl
  generalize w2.alloc (.cells #[.int .i64 0] 31) = w3 at *
  rw [s2, s1] at c3 f3
  rw [s1] at c0 c1 f2
  have e1 : w.heap.size + 1 < w2.heap.size := by omega
  exact ⟨(B1.trans (b2.mono (by omega))).trans (b3.mono (by omega)), (J.below b2 (by omega)).below b3 (by omega), (b3.cell (p := ⟨w.heap.size + 1, 0, none⟩) e1).trans c0, (b3.cell (p := ⟨w.heap.size + 1, 1, none⟩) e1).trans c1, c3, fun j => (b3.frozen (p := ⟨w.heap.size + 1, j, none⟩) e1).trans (f2 j), f3, by omega⟩
/-- A result stored. -/
theorem SvA.put {w wr : World} {n L c : Nat} {A : Option Addr} {wt : Int} (h : SvA w n A L c wt wr) (hn : w.heap.size ≤ n) (d : SD) (er : Int) :
    Below w.heap.size w (((wr.setCell ⟨n + 1, 0, none⟩ (.slice d.1.1 d.1.2.1 d.1.2.2)).setCell ⟨n + 1, 1, none⟩ (.slice d.2.1 d.2.2.1 d.2.2.2)).setCell ⟨n + 1 + 1, 0, none⟩ (.int .i64 er)) ∧
    (((wr.setCell ⟨n + 1, 0, none⟩ (.slice d.1.1 d.1.2.1 d.1.2.2)).setCell ⟨n + 1, 1, none⟩ (.slice d.2.1 d.2.2.1 d.2.2.2)).setCell ⟨n + 1 + 1, 0, none⟩ (.int .i64 er)).cell? ⟨n + 1, 0, none⟩ = some (.slice d.1.1 d.1.2.1 d.1.2.2) ∧
    (((wr.setCell ⟨n + 1, 0, none⟩ (.slice d.1.1 d.1.2.1 d.1.2.2)).setCell ⟨n + 1, 1, none⟩ (.slice d.2.1 d.2.2.1 d.2.2.2)).setCell ⟨n + 1 + 1, 0, none⟩ (.int .i64 er)).cell? ⟨n + 1, 1, none⟩ = some (.slice d.2.1 d.2.2.1 d.2.2.2) ∧
    (((wr.setCell ⟨n + 1, 0, none⟩ (.slice d.1.1 d.1.2.1 d.1.2.2)).setCell ⟨n + 1, 1, none⟩ (.slice d.2.1 d.2.2.1 d.2.2.2)).setCell ⟨n + 1 + 1, 0, none⟩ (.int .i64 er)).cell? ⟨n + 1 + 1, 0, none⟩ = some (.int .i64 er) := by
  have ne : ∀ i j, (⟨n + 1 + 1, i, none⟩ : Addr) ≠ ⟨n + 1, j, none⟩ := fun i j e => by injection e with e; omega
  have g1 : (wr.setCell ⟨n + 1, 0, none⟩ (.slice d.1.1 d.1.2.1 d.1.2.2)).cell? ⟨n + 1, 1, none⟩ = some (.slice none 0 0) := by rw [World.cell?_setCell_other _ _ _ _ (by simp)]; exact h.c21
  have g3 : ((wr.setCell ⟨n + 1, 0, none⟩ (.slice d.1.1 d.1.2.1 d.1.2.2)).setCell ⟨n + 1, 1, none⟩ (.slice d.2.1 d.2.2.1 d.2.2.2)).cell? ⟨n + 1 + 1, 0, none⟩ = some (.int .i64 0) := by
    rw [World.cell?_setCell_other _ _ _ _ (fun e => ne _ _ e.symm), World.cell?_setCell_other _ _ _ _ (fun e => ne _ _ e.symm)]; exact h.c3
  refine ⟨((h.bel.setCell (by show _ ≤ n + 1; omega) _).setCell (by show _ ≤ n + 1; omega) _).setCell (by show _ ≤ n + 1 + 1; omega) _, ?_, ?_, World.cell?_setCell_same _ _ _ g3⟩
  · rw [World.cell?_setCell_other _ _ _ _ (ne _ _), World.cell?_setCell_other _ _ _ _ (by simp)]; exact World.cell?_setCell_same _ _ _ h.c20
  · rw [World.cell?_setCell_other _ _ _ _ (ne _ _)]; exact World.cell?_setCell_same _ _ _ g1
/-- The solution under way. -/
structure SvM (wr : World) (n L b5 gB gC : Nat) (bs v : List Int) : Prop where
  c0 : wr.cell? ⟨b5, 0, none⟩ = some (.slice (some ⟨gB, 0, none⟩) L L)
  c1 : wr.cell? ⟨b5, 1, none⟩ = some (.slice (some ⟨gC, 0, none⟩) L L)
  ob : Own .i64 3 wr (n + 3) (.slice (some ⟨gB, 0, none⟩) L L) bs
  ov : Own .i64 3 wr (n + 3) (.slice (some ⟨gC, 0, none⟩) L L) v
  ne : gB ≠ gC ∧ gB ≠ b5 ∧ gC ≠ b5
  ge : n + 3 ≤ b5 ∧ b5 < wr.heap.size
theorem al3 (w : World) (a b c : Obj) : (((w.alloc a).alloc b).alloc c).drew.heap[w.heap.size]? = some a ∧ (((w.alloc a).alloc b).alloc c).drew.heap[w.heap.size + 1]? = some b ∧ (((w.alloc a).alloc b).alloc c).drew.heap[w.heap.size + 1 + 1]? = some c := by
  have h1 : (w.alloc a).heap.size = w.heap.size + 1 := by simp
  have h2 : ((w.alloc a).alloc b).heap.size = w.heap.size + 1 + 1 := by simp
  have e1 := World.alloc_heap_new w a
  have e2 := World.alloc_heap_new (w.alloc a) b
  have e3 := World.alloc_heap_new ((w.alloc a).alloc b) c
  rw [h1] at e2
  rw [h2] at e3
  refine ⟨?_, ?_, e3⟩
  · exact (Below.heap_alloc _ _ _ (by omega)).trans ((Below.heap_alloc _ _ _ (by omega)).trans e1)
  · exact (Below.heap_alloc _ _ _ (by omega)).trans e2
theorem bel3 (w : World) (a b c : Obj) : Below w.heap.size w (((w.alloc a).alloc b).alloc c).drew := ((((Below.refl _ w).alloc (Nat.le_refl _) a).alloc (by simp) b).alloc (by simp; omega) c).drew
theorem own_zeros {W : World} {g L base : Nat} (h : W.heap[g]? = some (.cells (Array.replicate L (Value.int .i64 0)) 3)) (hb : base ≤ g) (hL : L ≤ 1000) : Own .i64 3 W base (.slice (some ⟨g, 0, none⟩) L L) (List.replicate L 0) := by
  refine ⟨by simp, Or.inr ⟨g, L, Array.replicate L (Value.int .i64 0), by simp, hb, h, by simp, by unfold maxLen; omega, by simp, ?_⟩⟩
  simp
theorem cellOf {W : World} {b : Nat} {cs : Array Value} {T : TypeId} (h : W.heap[b]? = some (.cells cs T)) (o : Nat) : W.cell? ⟨b, o, none⟩ = cs[o]? := by
  unfold World.cell?; rw [h]; rfl
theorem SvM.laid {W : World} {n L b5 gB gC : Nat} (h5 : W.heap[b5]? = some (.cells #[.slice (some ⟨gB, 0, none⟩) L L, .slice (some ⟨gC, 0, none⟩) L L] 155)) (hB : W.heap[gB]? = some (.cells (Array.replicate L (Value.int .i64 0)) 3)) (hC : W.heap[gC]? = some (.cells (Array.replicate L (Value.int .i64 0)) 3))
    (ne : gB ≠ gC ∧ gB ≠ b5 ∧ gC ≠ b5) (hb : n + 3 ≤ gB) (hc : n + 3 ≤ gC) (h : n + 3 ≤ b5) (hL : L ≤ 96) : SvM W n L b5 gB gC (List.replicate L 0) (List.replicate L 0) :=
  ⟨cellOf h5 0, cellOf h5 1, own_zeros hB hb (by omega), own_zeros hC hc (by omega), ne, h, (Array.getElem?_eq_some_iff.1 h5).1⟩
theorem SvM.under {W W' : World} {n L b5 gB gC B : Nat} {bs v : List Int} (h : SvM W n L b5 gB gC bs v) (k : Below B W W') (h5 : b5 < B) (hB : gB < B) (hC : gC < B) : SvM W' n L b5 gB gC bs v := by
  have ho : ∀ {g : Nat} {zs : List Int}, g < B → Own .i64 3 W (n + 3) (.slice (some ⟨g, 0, none⟩) L L) zs → Own .i64 3 W' (n + 3) (.slice (some ⟨g, 0, none⟩) L L) zs := fun {g zs} hg O => by
    refine ⟨O.1, ?_⟩
    rcases O.2 with q | ⟨g', cap, cur, e1, e2, e3, e4⟩
    · exact Or.inl q
    · injection e1 with e1 a2 a3
      injection e1 with e1
      injection e1 with e1
      subst e1
      exact Or.inr ⟨g, cap, cur, by rw [← a2, ← a3], e2, (k.block g hg).trans e3, e4⟩
  exact ⟨(k.cell (p := ⟨b5, 0, none⟩) h5).trans h.c0, (k.cell (p := ⟨b5, 1, none⟩) h5).trans h.c1, ho hB h.ob, ho hC h.ov, h.ne, h.ge.1, Nat.lt_of_lt_of_le h.ge.2 k.size⟩
theorem SvM.lts {W : World} {n L b5 gB gC : Nat} {bs v : List Int} (h : SvM W n L b5 gB gC bs v) : (n + 3 ≤ gB ∧ gB < W.heap.size) ∧ (n + 3 ≤ gC ∧ gC < W.heap.size) := ⟨own_block h.ob rfl, own_block h.ov rfl⟩
theorem SvM.below {W W' : World} {n L b5 gB gC : Nat} {bs v : List Int} (h : SvM W n L b5 gB gC bs v) (k : Below W.heap.size W W') : SvM W' n L b5 gB gC bs v := h.under k h.ge.2 h.lts.1.2 h.lts.2.2
theorem SvM.setB {W : World} {n L b5 gB gC : Nat} {bs v : List Int} (h : SvM W n L b5 gB gC bs v) (y : Nat) (m : Int) (hl : bs.length = L) : SvM (W.setCell ⟨gB, y, none⟩ (.int .i64 m)) n L b5 gB gC (bs.set y m) v := by
  have n5 : ∀ i j, (⟨gB, i, none⟩ : Addr) ≠ ⟨b5, j, none⟩ := fun i j e => h.ne.2.1 (congrArg Addr.block e)
  refine ⟨by rw [World.cell?_setCell_other _ _ _ _ (n5 _ _)]; exact h.c0, by rw [World.cell?_setCell_other _ _ _ _ (n5 _ _)]; exact h.c1, h.ob.store hl.symm y m, ?_, h.ne, h.ge.1, by rw [World.size_setCell]; exact h.ge.2⟩
  refine h.ov.kept (row := some gB) ⟨rfl, rfl, rfl, by rw [World.size_setCell]; exact Nat.le_refl _, fun k hk hn => Below.heap_setCell _ _ _ _ (fun e => hn (by first | exact congrArg some e | exact congrArg some e.symm))⟩ (Or.inr ?_)
  intro e
  injection e with e
  exact h.ne.1 e.symm
theorem SvM.setC {W : World} {n L b5 gB gC : Nat} {bs v : List Int} (h : SvM W n L b5 gB gC bs v) (y : Nat) (m : Int) (hl : v.length = L) : SvM (W.setCell ⟨gC, y, none⟩ (.int .i64 m)) n L b5 gB gC bs (v.set y m) := by
  have n5 : ∀ i j, (⟨gC, i, none⟩ : Addr) ≠ ⟨b5, j, none⟩ := fun i j e => h.ne.2.2 (congrArg Addr.block e)
  refine ⟨by rw [World.cell?_setCell_other _ _ _ _ (n5 _ _)]; exact h.c0, by rw [World.cell?_setCell_other _ _ _ _ (n5 _ _)]; exact h.c1, ?_, h.ov.store hl.symm y m, h.ne, h.ge.1, by rw [World.size_setCell]; exact h.ge.2⟩
  refine h.ob.kept (row := some gC) ⟨rfl, rfl, rfl, by rw [World.size_setCell]; exact Nat.le_refl _, fun k hk hn => Below.heap_setCell _ _ _ _ (fun e => hn (by first | exact congrArg some e | exact congrArg some e.symm))⟩ (Or.inr ?_)
  intro e
  injection e with e
  exact h.ne.1 e
/-- What a round keeps, of the book-keeping too. -/
structure SvK (B n₀ Ba : Nat) (W W' : World) : Prop where
  kp : KpI n₀ Ba W W'
  kf : KeepsFrom B W W'
theorem SvK.refl {B n₀ Ba : Nat} (W : World) : SvK B n₀ Ba W W := ⟨KpI.refl W, KeepsFrom.refl _ _⟩
theorem SvK.below {B n₀ Ba : Nat} {X W W' : World} (h : SvK B n₀ Ba X W) (k : Below W.heap.size W W') (h0 : n₀ ≤ W.heap.size) (ha : Ba < W.heap.size) : SvK B n₀ Ba X W' :=
  ⟨h.kp.t (KpI.of_below k h0 ha), h.kf.trans ⟨k.size, fun i o _ hi _ => (k.block i (Array.getElem?_eq_some_iff.1 hi).1).trans hi⟩⟩
theorem SvK.set {B n₀ Ba : Nat} {X W : World} (h : SvK B n₀ Ba X W) {p : Addr} (h0 : n₀ ≤ p.block) (ha : p.block ≠ Ba) (u : Value) : SvK B n₀ Ba X (W.setCell p u) :=
  ⟨h.kp.set h0 ha u, h.kf.trans ((KeepsOthers.setCell _ _ _).from _)⟩
/-- A store into a block of the solution. -/
theorem SvA.setO {w wr : World} {n L c : Nat} {A : Option Addr} {wt : Int} (h : SvA w n A L c wt wr) {p : Addr} (hp : n + 3 ≤ p.block) (hn : w.heap.size ≤ n) (u : Value) : SvA w n A L c wt (wr.setCell p u) := by
  have k : Below (n + 3) wr (wr.setCell p u) := (Below.refl _ _).setCell hp u
  exact h.below k (by omega) (by omega)
def tl19 (i : Nat) : Bool := i == 19
theorem Own.underB {k : IntKind} {e : TypeId} {W W' : World} {base B : Nat} {v : Value} {zs : List Int} (h : Own k e W base v zs) (b : Below B W W') (hg : ∀ g, v.ownBlock = some g → g < B) : Own k e W' base v zs := by
  refine ⟨h.1, ?_⟩
  rcases h.2 with q | ⟨g, cap, cur, e1, e2, e3, e4⟩
  · exact Or.inl q
  · exact Or.inr ⟨g, cap, cur, e1, e2, (b.block g (hg g (by rw [e1]; rfl))).trans e3, e4⟩
/-- A store elsewhere. -/
theorem Own.setO {k : IntKind} {e : TypeId} {W : World} {base : Nat} {v : Value} {zs : List Int} (h : Own k e W base v zs) {p : Addr} (hp : p.block < base) (u : Value) : Own k e (W.setCell p u) base v zs := by
  refine h.kept (row := some p.block) ⟨rfl, rfl, rfl, by rw [World.size_setCell]; exact Nat.le_refl _, fun k hk hn => Below.heap_setCell _ _ _ _ (fun e => hn (by first | exact congrArg some e | exact congrArg some e.symm))⟩ (Or.inr ?_)
  intro e
  have := (own_block h e).1
  omega
/-- What holds at the end, while the marks are taken away. -/
structure SvF (w : World) (n B : Nat) (d : SD) (er : Int) (bs v : List Int) (W : World) : Prop where
  bel : Below w.heap.size w W
  c0 : W.cell? ⟨n + 1, 0, none⟩ = some (.slice d.1.1 d.1.2.1 d.1.2.2)
  c1 : W.cell? ⟨n + 1, 1, none⟩ = some (.slice d.2.1 d.2.2.1 d.2.2.2)
  c2 : W.cell? ⟨n + 1 + 1, 0, none⟩ = some (.int .i64 er)
  ob : Own .i64 3 W w.heap.size (.slice d.1.1 d.1.2.1 d.1.2.2) bs
  ov : Own .i64 3 W w.heap.size (.slice d.2.1 d.2.2.1 d.2.2.2) v
  lb : ∀ g, (Value.slice d.1.1 d.1.2.1 d.1.2.2).ownBlock = some g → g < B
  lv : ∀ g, (Value.slice d.2.1 d.2.2.1 d.2.2.2).ownBlock = some g → g < B
  sz : n + 1 + 1 < B ∧ w.heap.size ≤ B
theorem SvF.under {w : World} {n B : Nat} {d : SD} {er : Int} {bs v : List Int} {W W' : World} (h : SvF w n B d er bs v W) (k : Below B W W') : SvF w n B d er bs v W' :=
  ⟨h.bel.trans (k.mono h.sz.2), (k.cell (p := ⟨n + 1, 0, none⟩) (by have := h.sz.1; show n + 1 < B; omega)).trans h.c0, (k.cell (p := ⟨n + 1, 1, none⟩) (by have := h.sz.1; show n + 1 < B; omega)).trans h.c1, (k.cell (p := ⟨n + 1 + 1, 0, none⟩) h.sz.1).trans h.c2, h.ob.underB k h.lb, h.ov.underB k h.lv, h.lb, h.lv, h.sz⟩
theorem SvF.leaves {l : List It} {wt : Int} {w : World} {n B : Nat} {d : SD} {er : Int} {bs v : List Int} {W : World} (h : SvF w n B d er bs v W) (hW : B ≤ W.heap.size)
    (hp : (validR l wt ≠ 0 ∧ er = validR l wt ∧ v = [] ∧ bs = []) ∨ (validR l wt = 0 ∧ er = 15 ∧ v = [] ∧ bs = [] ∧ ∀ bs' v', ¬ Sol l wt bs' v') ∨ (validR l wt = 0 ∧ er = 0 ∧ Sol l wt bs v))
    {fn : Func} (hf : fn.results = #[.cell 2 155, .cell 3 31]) (tmps : Array Value) (h2 : tmps.getD 2 undef = .pointer (some ⟨n + 1, 0, none⟩)) (h3 : tmps.getD 3 undef = .pointer (some ⟨n + 1 + 1, 0, none⟩)) (ds : List Deferred) (hm : Mks B W ds) :
    LeavesInM Fence.wide 9 Tryz.prog fn tmps (SolvePost l wt w) ds .returning W := by
  refine leaves_marks (B := B) (J := fun W => SvF w n B d er bs v W ∧ B ≤ W.heap.size) ?_ ?_ ds W hm ⟨h, hW⟩
  · rintro W D o o' ⟨hJ, hs⟩ hD ho hc
    have g := grownBy_putObj' W D o'
    have k := (Below.refl B W).grown g hs (fun k e => by cases e; exact hD)
    exact ⟨hJ.under k, Nat.le_trans hs g.size⟩
  · rintro W ⟨hJ, _⟩
    exact ⟨_, results_sol hf tmps W _ _ d er h2 h3 hJ.c0 hJ.c1 hJ.c2, _, er, bs, v, rfl, hJ.ob, hJ.ov, hJ.bel, hp⟩
/-- What holds behind a beginning of the order. -/
structure SvI (l : List It) (wt : Int) (w : World) (n : Nat) (A : Option Addr) (L c b5 gB gC B : Nat) (pre : List (Ix l)) (W : World) : Prop where
  ex : ∃ bs v, SvA w n A L c wt W ∧ SvM W n L b5 gB gC bs v ∧ Nums L bs v ∧ Good l wt pre bs v
  sz : B ≤ W.heap.size
theorem SvI.under {l : List It} {wt : Int} {w : World} {n L c b5 gB gC B : Nat} {A : Option Addr} {pre : List (Ix l)} {W W' : World} (h : SvI l wt w n A L c b5 gB gC B pre W) (k : Below B W W') (h1 : n + 1 + 1 < B) (h2 : w.heap.size ≤ B) (h5 : b5 < B) (hB : gB < B) (hC : gC < B) : SvI l wt w n A L c b5 gB gC B pre W' := by
  obtain ⟨⟨bs, v, a1, a2, a3, a4⟩, hs⟩ := h
  exact ⟨⟨bs, v, a1.below k h1 h2, a2.under k h5 hB hC, a3, a4⟩, Nat.le_trans hs k.size⟩
/-- What holds where some item has no code. -/
structure SvX (l : List It) (wt : Int) (w : World) (n B : Nat) (pre : List (Ix l)) (W : World) : Prop where
  bel : Below w.heap.size w W
  c0 : W.cell? ⟨n + 1, 0, none⟩ = some (.slice none 0 0)
  c1 : W.cell? ⟨n + 1, 1, none⟩ = some (.slice none 0 0)
  c2 : W.cell? ⟨n + 1 + 1, 0, none⟩ = some (.int .i64 15)
  no : pre <+: ordN l 32 → ∀ bs v, ¬ Sol l wt bs v
  sz : B ≤ W.heap.size
theorem SvX.under {l : List It} {wt : Int} {w : World} {n B : Nat} {pre : List (Ix l)} {W W' : World} (h : SvX l wt w n B pre W) (k : Below B W W') (h1 : n + 1 + 1 < B) (h2 : w.heap.size ≤ B) : SvX l wt w n B pre W' :=
  ⟨h.bel.trans (k.mono h2), (k.cell (p := ⟨n + 1, 0, none⟩) (by show n + 1 < B; omega)).trans h.c0, (k.cell (p := ⟨n + 1, 1, none⟩) (by show n + 1 < B; omega)).trans h.c1, (k.cell (p := ⟨n + 1 + 1, 0, none⟩) h1).trans h.c2, h.no, Nat.le_trans h.sz k.size⟩
set_option maxRecDepth 100000 in
set_option maxHeartbeats 6400000 in
theorem solve_any (l : List It) (A : Option Addr) (c L : Nat) (wt : Int) (hL : L = l.length) (w : World) (h : IRow w A l) :
    Calls Tryz.prog 109 #[jv A L c wt] w (SolvePost l wt w) := by
  have H := Lib.hid h
  have HL := Lib.hid hL
  have HVL := Lib.hid (fun (W : World) (k : IRow W A l) => valid_any l A c wt W k)
  rw [← hL] at HVL
  have S0 := Lib.hid (SvA.new (w := w) (A := A) (L := L) (c := c) (wt := wt))
  obtain ⟨n, hn⟩ : ∃ n, n = w.heap.size := ⟨_, rfl⟩
  have HN := Lib.hid hn
  clear h hL
  refine (callsIn_wide (n := 9)).1 ?_
  refine callsIn_of_wp_marks Tryz.func109 rfl trivial ?_ rfl
  simp only [Tryz.ntmps109, List.size_toArray, List.length_cons, List.length_nil, Nat.reduceAdd, Nat.reduceSub, Array.replicate_succ, Array.replicate_zero, List.push_toArray, List.append_toArray, List.nil_append, List.cons_append]
  refine wpIn_wide.2 ?_
  go_upto_region 1 with fail
  rw [← hn] at S0 ⊢
  generalize ((w.alloc (.cells #[.slice A L c, .int .i64 wt] 37)).alloc (.cells #[.slice none 0 0, .slice none 0 0] 155)).alloc (.cells #[.int .i64 0] 31) = w1 at *
  clear hn
  obtain ⟨j0, j1, jl⟩ := S0.out.box
  go_wp2_with fail
  refine (HVL.out w1 (H.out.below S0.out.bel)).mono ?_
  rintro e w2 ⟨rfl, hB2⟩
  have S2 := Lib.hid (S0.out.below hB2 S0.out.lt S0.out.bel.size)
  clear j0 j1 jl S0 hB2 HVL
  obtain ⟨j0, j1, jl⟩ := S2.out.box
  have c20 := S2.out.c20
  have c21 := S2.out.c21
  have c3 := S2.out.c3
  have f20 := S2.out.f2 0
  have f21 := S2.out.f2 1
  have f30 := S2.out.f3 0
  by_cases he : validR l wt = 0
  · obtain ⟨p1, p2, p3⟩ := valid_ok he
    have HE := Lib.hid he
    rw [he]
    rw [← HL.out] at p1
    have hmk := fun W => make_ints W L (by omega)
    clear he p2 p3 c20 c21 c3 f20 f21 f30
    go_upto_region 4 with fail
    go_cut [5] from 16 to 24 (fun pv wx => ∃ b5 gB gC, pv = .pointer (some ⟨b5, 0, none⟩) ∧ Hid (SvM wx n L b5 gB gC (List.replicate L 0) (List.replicate L 0)) ∧ Hid (Below w2.heap.size w2 wx))
    case first =>
      go_region
      all_goals
        have hlt2 := S2.out.lt
        go_wp2_with fail
        go_meet
        case rel =>
          refine ⟨_, _, _, rfl, Lib.hid (SvM.laid (by first | exact (al3 _ _ _ _).1 | exact (al3 _ _ _ _).2.1 | exact (al3 _ _ _ _).2.2) (by first | exact (al3 _ _ _ _).1 | exact (al3 _ _ _ _).2.1 | exact (al3 _ _ _ _).2.2) (by first | exact (al3 _ _ _ _).1 | exact (al3 _ _ _ _).2.1 | exact (al3 _ _ _ _).2.2) ⟨by omega, by omega, by omega⟩ (by omega) (by omega) (by omega) p1), Lib.hid (bel3 _ _ _ _)⟩
    case rest =>
      obtain ⟨b5, gB, gC, rfl, M, B3⟩ := hcut
      have S3 := Lib.hid (S2.out.below B3.out S2.out.lt S2.out.bel.size)
      clear B3 j0 j1 jl hmk
      rename_i hK
      obtain ⟨j0, j1, jl⟩ := S3.out.box
      have HB := Lib.hid (byB_any A L c wc)
      go_wp2_with fail
      refine HB.out.mono ?_
      rintro e w3 ⟨rfl, hw3⟩
      have b4 : Below wc.heap.size wc w3 := by rw [hw3]; exact (Below.refl _ _).alloc (Nat.le_refl _) _
      have pA : w3.heap[wc.heap.size]? = some (.cells #[.slice A L c] 35) := by rw [hw3]; exact World.alloc_heap_new wc _
      have s4 : w3.heap.size = wc.heap.size + 1 := by rw [hw3]; simp
      have S4 := Lib.hid (S3.out.below b4 S3.out.lt S3.out.bel.size)
      have M4 := Lib.hid (M.out.below b4)
      clear j0 j1 jl hw3 b4 HB
      have H4 := Lib.hid pA
      obtain ⟨Ba, hBa⟩ : ∃ Ba, Ba = wc.heap.size := ⟨_, rfl⟩
      rw [← hBa] at s4 H4
      clear pA
      go_wp2_with fail
      rw [← hBa]
      refine (wpIn_wide (n := 9)).1 ?_
      obtain ⟨B, hB⟩ : ∃ B, B = w3.heap.size := ⟨_, rfl⟩
      have HBS := Lib.hid hB
      have LTS := Lib.hid M.out.lts
      have GE5 := Lib.hid M.out.ge
      have NE := Lib.hid M.out.ne
      have hcA : w3.cell? ⟨Ba, 0, none⟩ = some (.slice A L c) := cellOf H4.out 0
      rw [HL.out] at hcA
      have hnw := S4.out.bel.size
      have HBa := Lib.hid hBa
      have HPR := Lib.hid (KpI.put (n₀ := w.heap.size) (Ba := Ba) hnw (by rw [s4]; omega))
      have LTB := Lib.hid (show gB < Ba ∧ gC < Ba ∧ b5 < Ba ∧ n + 1 + 1 < Ba ∧ w3.heap.size = Ba + 1 by rw [hBa]; exact ⟨LTS.out.1.2, LTS.out.2.2, GE5.out.2, S3.out.lt, by rw [s4, hBa]⟩)
      clear hBa hB s4
      refine wpIn_range1 (p := 28) (q := 6) (gf := 168) (lb := #[.pointer (some ⟨Ba, 0, none⟩)]) (by decide) rfl (enters_of Tryz.func168 (by kernel_rfl) rfl)
        (val := fun z : Ix l => .int .i64 (z.1 : Int)) (bb_stops 8 (by decide) l A c Ba w.heap.size (by rw [← HL.out]; exact p1) w3 hcA hnw (H.out.row.under S4.out.bel))
        KpI.refl (fun h k => h.t k) HPR.out (Below.refl _ _)
        (SvI l wt w n A L c b5 gB gC w3.heap.size) (fun co pre W => co = .ret ∧ SvX l wt w n w3.heap.size pre W)
        (ownFrom_stable (fun _ _ h => h.sz) (fun _ _ _ h k => h.under k (by have := S4.out.lt; omega) hnw (by have := LTB.out; omega) (by have := LTB.out; omega) (by have := LTB.out; omega)))
        (fun co => ownFrom_stable (fun _ _ h => h.2.sz) (fun _ _ _ h k => ⟨h.1, h.2.under k (by have := S4.out.lt; omega) hnw⟩))
        ⟨⟨_, _, S4.out, M4.out, Nums.zero L, by rw [HL.out]; exact Good.start l wt⟩, Nat.le_refl _⟩ ?assign ?body ?done ?stop
      case assign =>
        intro lo x W K hK
        simp only [List.setIfInBounds_toArray, List.set_cons_succ, List.set_cons_zero] at hK ⊢
        gi_wp2
        exact hK
      case body =>
        rintro lo pre ⟨y, hyl⟩ W ⟨⟨bs, v, a1, a2, a3, a4⟩, hsz⟩ -
        simp only [List.setIfInBounds_toArray, List.set_cons_succ, List.set_cons_zero]
        have hy : y < L := by rw [HL.out]; exact hyl
        have HA := Lib.hid a1
        have HM := Lib.hid a2
        have HNm := Lib.hid a3
        have HG := Lib.hid a4
        have hNL := H4.out
        clear a1 a2 a3 a4 hNL hcA
        obtain ⟨j0, j1, jl⟩ := HA.out.box
        have HSZ := Lib.hid hsz
        gi_wp2
        clear j0 j1 jl
        have hm0 := Lib.hid (set_self (zs := bs) (y := y) (by rw [HNm.out.bl]; exact hy))
        have HBM := Lib.hid (fun k => bmx_bd (l := l) (y := y) HNm.out.vb (HNm.out.bb y) k)
        have hst0 := Lib.hid (show SvM W n L b5 gB gC (bs.set y (bmx l v y (bs.getD y 0) 0)) v by
          show SvM W n L b5 gB gC (bs.set y (bs.getD y 0)) v
          rw [hm0.out]; exact HM.out)
        gi_loopw [32] (fun i wi => ∃ k : Nat, k ≤ L ∧ i = .int .i64 (k : Int) ∧ Hid (SvA w n A L c wt wi) ∧ Hid (SvM wi n L b5 gB gC (bs.set y (bmx l v y (bs.getD y 0) k)) v) ∧ Hid (SvK w3.heap.size w.heap.size Ba W wi)) (fun i _ => L - (intOf i).toNat)
        case atStart => exact ⟨0, by omega, rfl, HA, hst0, Lib.hid (SvK.refl W)⟩
        case round =>
          clear HA hst0 HM
          obtain ⟨k, hk, rfl, HA, HM, HK⟩ := hrel
          by_cases hlk : k < L
          · have HLB := Lib.hid (fun (W' : World) (kb : Below wr.heap.size wr W') => lb_any l A c L wt HL.out HE.out k y (v.getD k 0) (by have := HNm.out.vb k; omega) hlk hy W' (H.out.below (HA.out.bel.trans (kb.mono HA.out.bel.size))))
            have c0 := HM.out.c0
            have c1 := HM.out.c1
            have hLs : (bs.set y (bmx l v y (bs.getD y 0) k)).length = L := by rw [List.length_set]; exact HNm.out.bl
            have d0 := HM.out.ob.cell hLs.symm y (by rw [hLs]; exact hy)
            rw [getDset (by rw [HNm.out.bl]; exact hy), if_pos rfl] at d0
            have fz := HM.out.ob.frozen hLs.symm y
            have e0 := HM.out.ov.cell HNm.out.vl.symm k (by rw [HNm.out.vl]; exact hlk)
            obtain ⟨j0, j1, jl⟩ := HA.out.box
            have hM2 : bmx l v y (bs.getD y 0) (k + 1) = max2 (bmx l v y (bs.getD y 0) k) (vk (rel l k y) (v.getD k 0)) := rfl
            obtain ⟨m0, hm0'⟩ : ∃ m, m = bmx l v y (bs.getD y 0) k := ⟨_, rfl⟩
            obtain ⟨vk0, hvk⟩ : ∃ m, m = v.getD k 0 := ⟨_, rfl⟩
            have HM0 := Lib.hid hm0'
            rw [← hm0'] at d0 hM2
            rw [← hvk] at e0 hM2 HLB
            obtain ⟨lb, hlb⟩ : ∃ m, m = vk (rel l k y) vk0 := ⟨_, rfl⟩
            rw [← hlb] at hM2 HLB
            have HM2 := Lib.hid hM2
            obtain ⟨m2, hm2⟩ : ∃ m, m = max2 m0 lb := ⟨_, rfl⟩
            have hmx : ∀ w ts t, (Builtin.max_ ts t #[.int .i64 m0, .int .i64 lb]).run Tryz.prog w = .ok (.int .i64 m2) w := fun w ts t => by rw [run_max2, hm2]
            have HM3 := Lib.hid (show bmx l v y (bs.getD y 0) (k + 1) = m2 by rw [HM2.out, hm2])
            have hyi : (y : Int) < (L : Int) := by omega
            have hki : (k : Int) < (L : Int) := by omega
            clear hM2 hm0' hvk hlb hm2 hLs
            have lt5 : b5 < wr.heap.size := lt_of_cell c0
            have ltB : gB < wr.heap.size := lt_of_cell d0
            have ltC : gC < wr.heap.size := lt_of_cell e0
            have HPS := Lib.hid (fun (X : World) (hX : Below wr.heap.size wr X) => (show X.cell? ⟨b5, 0, none⟩ = some (.slice (some ⟨gB, 0, none⟩) L L) ∧ X.cell? ⟨b5, 1, none⟩ = some (.slice (some ⟨gC, 0, none⟩) L L) ∧ X.cell? ⟨gB, y, none⟩ = some (.int .i64 m0) ∧ X.cell? ⟨gC, k, none⟩ = some (.int .i64 vk0) ∧ X.cell? ⟨n, 0, none⟩ = some (.slice A L c) ∧ X.cell? ⟨n, 1, none⟩ = some (.int .i64 wt) from
              ⟨(hX.cell (p := ⟨b5, 0, none⟩) lt5).trans c0, (hX.cell (p := ⟨b5, 1, none⟩) lt5).trans c1, (hX.cell (p := ⟨gB, y, none⟩) ltB).trans d0, (hX.cell (p := ⟨gC, k, none⟩) ltC).trans e0, (hX.cell (p := ⟨n, 0, none⟩) jl).trans j0, (hX.cell (p := ⟨n, 1, none⟩) jl).trans j1⟩))
            have HFZ := Lib.hid (fun (X : World) (hX : Below wr.heap.size wr X) => (hX.frozen (p := ⟨gB, y, none⟩) ltB).trans fz)
            have HST := Lib.hid (fun (X : World) (hX : Below wr.heap.size wr X) => (show SvM (X.setCell ⟨gB, y, none⟩ (.int .i64 m2)) n L b5 gB gC (bs.set y (bmx l v y (bs.getD y 0) (k + 1))) v from by
              have q := (HM.out.below hX).setB y m2 (by rw [List.length_set]; exact HNm.out.bl)
              rw [List.set_set] at q
              rw [HM3.out]
              exact q))
            clear c0 c1 d0 e0 fz lt5 ltB ltC j0 j1 jl
            gi_upto_region 10 with fail
            obtain ⟨q0, e0⟩ : ∃ x, x = wr.drew := ⟨_, rfl⟩
            have K0 := Lib.hid (show Below wr.heap.size wr q0 from by rw [e0]; exact (Below.refl _ _).drew)
            have F0 := HPS.out q0 K0.out
            have HE0 := Lib.hid e0
            clear e0
            refine AnyT.round_at tl19 (fun X => X.cell? ⟨b5, 0, none⟩ = some (.slice (some ⟨gB, 0, none⟩) L L) ∧ X.cell? ⟨b5, 1, none⟩ = some (.slice (some ⟨gC, 0, none⟩) L L) ∧ X.cell? ⟨gB, y, none⟩ = some (.int .i64 m0) ∧ X.cell? ⟨gC, k, none⟩ = some (.int .i64 vk0) ∧ X.cell? ⟨n, 0, none⟩ = some (.slice A L c) ∧ X.cell? ⟨n, 1, none⟩ = some (.int .i64 wt)) (by kernel_rfl) (by kernel_rfl) (fun _ _ h => h) HE0.out F0 ?_
            clear F0
            intro F0
-- TAKES
            refine AnyT.takeD (i := 0) (d := some 35) (v := .pointer (some ⟨b5, 0, none⟩)) rfl rfl (by kernel_rfl) (by kernel_rfl) (by kernel_rfl) (by kernel_rfl) (fun _ _ _ h => h) (Or.inl ⟨by rfl, fun wz _ => by go_simp⟩) F0 ?_
            simp only [Act.put, List.setIfInBounds_toArray, List.set_cons_zero, List.set_cons_succ]
            refine AnyT.takeD (i := 1) (d := some 36) (v := .slice (some ⟨gB, 0, none⟩) L L) rfl rfl (by kernel_rfl) (by kernel_rfl) (by kernel_rfl) (by kernel_rfl) (fun _ _ _ h => h) (Or.inl ⟨by rfl, fun wz hz => by obtain ⟨z0, z1, z2, z3, z4, z5⟩ := hz; go_simp⟩) F0 ?_
            simp only [Act.put, List.setIfInBounds_toArray, List.set_cons_zero, List.set_cons_succ]
            refine AnyT.takeD (i := 2) (d := some 37) (v := .int .i64 (y : Int)) rfl rfl (by kernel_rfl) (by kernel_rfl) (by kernel_rfl) (by kernel_rfl) (fun _ _ _ h => h) (Or.inl ⟨by rfl, fun wz _ => by go_simp⟩) F0 ?_
            simp only [Act.put, List.setIfInBounds_toArray, List.set_cons_zero, List.set_cons_succ]
            refine AnyT.takeD (i := 3) (d := some 38) (v := .pointer (some ⟨b5, 0, none⟩)) rfl rfl (by kernel_rfl) (by kernel_rfl) (by kernel_rfl) (by kernel_rfl) (fun _ _ _ h => h) (Or.inl ⟨by rfl, fun wz _ => by go_simp⟩) F0 ?_
            simp only [Act.put, List.setIfInBounds_toArray, List.set_cons_zero, List.set_cons_succ]
            refine AnyT.takeD (i := 4) (d := some 39) (v := .slice (some ⟨gB, 0, none⟩) L L) rfl rfl (by kernel_rfl) (by kernel_rfl) (by kernel_rfl) (by kernel_rfl) (fun _ _ _ h => h) (Or.inl ⟨by rfl, fun wz hz => by obtain ⟨z0, z1, z2, z3, z4, z5⟩ := hz; go_simp⟩) F0 ?_
            simp only [Act.put, List.setIfInBounds_toArray, List.set_cons_zero, List.set_cons_succ]
            refine AnyT.takeD (i := 5) (d := some 40) (v := .int .i64 (y : Int)) rfl rfl (by kernel_rfl) (by kernel_rfl) (by kernel_rfl) (by kernel_rfl) (fun _ _ _ h => h) (Or.inl ⟨by rfl, fun wz _ => by go_simp⟩) F0 ?_
            simp only [Act.put, List.setIfInBounds_toArray, List.set_cons_zero, List.set_cons_succ]
            refine AnyT.takeD (i := 6) (d := some 41) (v := .pointer (some ⟨gB, y, none⟩)) rfl rfl (by kernel_rfl) (by kernel_rfl) (by kernel_rfl) (by kernel_rfl) (fun _ _ _ h => h) (Or.inl ⟨by rfl, fun wz _ => by go_simp⟩) F0 ?_
            simp only [Act.put, List.setIfInBounds_toArray, List.set_cons_zero, List.set_cons_succ]
            refine AnyT.takeD (i := 7) (d := some 42) (v := .int .i64 m0) rfl rfl (by kernel_rfl) (by kernel_rfl) (by kernel_rfl) (by kernel_rfl) (fun _ _ _ h => h) (Or.inl ⟨by rfl, fun wz hz => by obtain ⟨z0, z1, z2, z3, z4, z5⟩ := hz; go_simp⟩) F0 ?_
            simp only [Act.put, List.setIfInBounds_toArray, List.set_cons_zero, List.set_cons_succ]
            refine AnyT.takeD (i := 8) (d := some 43) (v := jv A L c wt) rfl rfl (by kernel_rfl) (by kernel_rfl) (by kernel_rfl) (by kernel_rfl) (fun _ _ _ h => h) (Or.inl ⟨by rfl, fun wz hz => by obtain ⟨z0, z1, z2, z3, z4, z5⟩ := hz; go_simp⟩) F0 ?_
            simp only [Act.put, List.setIfInBounds_toArray, List.set_cons_zero, List.set_cons_succ]
            refine AnyT.takeD (i := 9) (d := some 44) (v := .int .i64 (k : Int)) rfl rfl (by kernel_rfl) (by kernel_rfl) (by kernel_rfl) (by kernel_rfl) (fun _ _ _ h => h) (Or.inl ⟨by rfl, fun wz _ => by go_simp⟩) F0 ?_
            simp only [Act.put, List.setIfInBounds_toArray, List.set_cons_zero, List.set_cons_succ]
            refine AnyT.takeD (i := 10) (d := some 45) (v := .pointer (some ⟨b5, 1, none⟩)) rfl rfl (by kernel_rfl) (by kernel_rfl) (by kernel_rfl) (by kernel_rfl) (fun _ _ _ h => h) (Or.inl ⟨by rfl, fun wz _ => by go_simp⟩) F0 ?_
            simp only [Act.put, List.setIfInBounds_toArray, List.set_cons_zero, List.set_cons_succ]
            refine AnyT.takeD (i := 11) (d := some 46) (v := .slice (some ⟨gC, 0, none⟩) L L) rfl rfl (by kernel_rfl) (by kernel_rfl) (by kernel_rfl) (by kernel_rfl) (fun _ _ _ h => h) (Or.inl ⟨by rfl, fun wz hz => by obtain ⟨z0, z1, z2, z3, z4, z5⟩ := hz; go_simp⟩) F0 ?_
            simp only [Act.put, List.setIfInBounds_toArray, List.set_cons_zero, List.set_cons_succ]
            refine AnyT.takeD (i := 12) (d := some 47) (v := .int .i64 (k : Int)) rfl rfl (by kernel_rfl) (by kernel_rfl) (by kernel_rfl) (by kernel_rfl) (fun _ _ _ h => h) (Or.inl ⟨by rfl, fun wz _ => by go_simp⟩) F0 ?_
            simp only [Act.put, List.setIfInBounds_toArray, List.set_cons_zero, List.set_cons_succ]
            refine AnyT.takeD (i := 13) (d := some 48) (v := .pointer (some ⟨gC, k, none⟩)) rfl rfl (by kernel_rfl) (by kernel_rfl) (by kernel_rfl) (by kernel_rfl) (fun _ _ _ h => h) (Or.inl ⟨by rfl, fun wz _ => by go_simp⟩) F0 ?_
            simp only [Act.put, List.setIfInBounds_toArray, List.set_cons_zero, List.set_cons_succ]
            refine AnyT.takeD (i := 14) (d := some 49) (v := .int .i64 vk0) rfl rfl (by kernel_rfl) (by kernel_rfl) (by kernel_rfl) (by kernel_rfl) (fun _ _ _ h => h) (Or.inl ⟨by rfl, fun wz hz => by obtain ⟨z0, z1, z2, z3, z4, z5⟩ := hz; go_simp⟩) F0 ?_
            simp only [Act.put, List.setIfInBounds_toArray, List.set_cons_zero, List.set_cons_succ]
            refine AnyT.takeD (i := 15) (d := some 50) (v := .int .i64 (y : Int)) rfl rfl (by kernel_rfl) (by kernel_rfl) (by kernel_rfl) (by kernel_rfl) (fun _ _ _ h => h) (Or.inl ⟨by rfl, fun wz _ => by go_simp⟩) F0 ?_
            simp only [Act.put, List.setIfInBounds_toArray, List.set_cons_zero, List.set_cons_succ]
            -- TAKEN
            refine AnyT.branch (rs := [16]) (by kernel_rfl) (by simp) ?_
            refine all_cons (?_) all_nil
            refine AnyT.enter (i := 16) (d := some 51) (f := 133) (args := #[jv A L c wt, .int .i64 (k : Int), .int .i64 vk0, .int .i64 (y : Int)]) rfl rfl rfl (by go_simp) (HLB.out q0 K0.out) ?_
            rintro e q1 ⟨rfl, hB1⟩
            have K1 := Lib.hid (K0.out.trans (hB1.mono K0.out.size))
            have F1 := HPS.out q1 K1.out
            refine ⟨_, rfl, fun _ => F1, ?_⟩
            clear hB1 F0
            simp only [Act.put, List.setIfInBounds_toArray, List.set_cons_zero, List.set_cons_succ]
            refine AnyT.takeD (i := 17) (d := some 52) (v := .int .i64 m2) rfl rfl (by kernel_rfl) (by kernel_rfl) (by kernel_rfl) (by kernel_rfl) (fun _ _ _ h => h) (Or.inl ⟨by rfl, fun wz _ => by go_simp⟩) F1 ?_
            simp only [Act.put, List.setIfInBounds_toArray, List.set_cons_zero, List.set_cons_succ]
            refine AnyT.takeD (i := 18) (d := some 53) (v := .pointer (some ⟨gB, y, none⟩)) rfl rfl (by kernel_rfl) (by kernel_rfl) (by kernel_rfl) (by kernel_rfl) (fun _ _ _ h => h) (Or.inl ⟨by rfl, fun wz _ => by go_simp⟩) F1 ?_
            simp only [Act.put, List.setIfInBounds_toArray, List.set_cons_zero, List.set_cons_succ]
            refine AnyT.branch (rs := [19]) (by kernel_rfl) (by simp) ?_
            refine all_cons ?_ all_nil
            refine AnyT.step (i := 19) rfl (fun KK hK => ?_)
            obtain ⟨z0, z1, z2, z3, z4, z5⟩ := F1
            have fz := HFZ.out q1 K1.out
            have A1 := HA.out.below K1.out HA.out.lt HA.out.bel.size
            have HA2 := Lib.hid (A1.setO (p := ⟨gB, y, none⟩) (by have := LTS.out.1.1; show n + 3 ≤ gB; omega) (by have := HN.out; omega) (.int .i64 m2))
            have HM2 := Lib.hid (HST.out q1 K1.out)
            have HK2 := Lib.hid ((HK.out.below K1.out HA.out.bel.size (by have := HK.out.kp.size; have := HSZ.out; have := LTB.out; omega)).set (p := ⟨gB, y, none⟩) (by have := LTS.out.1.1; have := HN.out; show _ ≤ gB; omega) (by have := LTB.out; show gB ≠ Ba; omega) (.int .i64 m2))
            clear A1 HPS HFZ HST HLB HM HA HK
            go_simp
            refine hK.out _ _ (fun h => absurd h (by decide)) ?_
            clear hK KK fz z0 z1 z2 z3 z4 z5 hmx
            refine AnyT.done_ (by kernel_rfl) ?_ _
            gi_wp2
            go_roundw
            case rel => exact ⟨k + 1, by omega, by simp, HA2, HM2, HK2⟩
            case measure => simp [intOf]; omega
          · have hkL : k = L := by omega
            subst hkL
            have hIR : IRow wr A l := H.out.below HA.out.bel
            obtain ⟨ad, rfl, C⟩ := hIR.at_ y hyl
            obtain ⟨-, -, r2, -⟩ := C.spelt
            replace r2 : wr.cell? ⟨(ad.add (y * 4)).block, (ad.add (y * 4)).off + 2, none⟩ = some (.int .i64 (rnd l y)) := r2
            have c0 := HM.out.c0
            have hLs : (bs.set y (bmx l v y (bs.getD y 0) k)).length = k := by rw [List.length_set]; exact HNm.out.bl
            have d0 := HM.out.ob.cell hLs.symm y (by rw [hLs]; exact hy)
            rw [getDset (by rw [HNm.out.bl]; exact hy), if_pos rfl] at d0
            obtain ⟨j0, j1, jl⟩ := HA.out.box
            have hmb := HBM.out k
            have HFO := Lib.hid (formOk_of HE.out)
            have hrb := HFO.out.rb y hyl
            have HNX := Lib.hid (fun (kk : Int) => next_bd (n := bmx l v y (bs.getD y 0) k) (r := rnd l y) (wt := wt) (k := kk) hmb.1 hrb HFO.out.wb)
            have HNE := Lib.hid (next_err (n := bmx l v y (bs.getD y 0) k) (r := rnd l y) (wt := wt) hmb.1 hrb HFO.out.wb)
            have NR := Lib.hid (fun W => next_code (bmx l v y (bs.getD y 0) k) (rnd l y) wt W (by omega))
            have HGS := Lib.hid (fun kk hk => HG.out.stepN HL.out HFO.out.blk hyl (k := kk) hk)
            have HGF := Lib.hid (HG.out.failN HL.out HFO.out.blk hyl)
            obtain ⟨⟨kk, er⟩, hnz⟩ : ∃ t, t = nextZ (bmx l v y (bs.getD y 0) k) (rnd l y) wt := ⟨_, rfl⟩
            have HNZ := Lib.hid hnz
            rw [← hnz] at NR HNX HNE
            have hyi : (y : Int) < (k : Int) := by omega
            clear hIR C hnz hLs
            obtain ⟨mb, hmbe⟩ : ∃ m, m = bmx l v y (bs.getD y 0) k := ⟨_, rfl⟩
            have HMB := Lib.hid hmbe
            rw [← hmbe] at d0 NR hmb
            clear hmbe hk hlk HG
            generalize rnd l y = rr at *
            gi_wp2
            try dsimp only
            refine wpIn_region_quiet_round lo rfl (by kernel_rfl) (by kernel_rfl) (by kernel_rfl) ?_
            repeat (gi_big_quiet_step (fail))
            refine Go.BigFrame.wpQuietIn_want (fun _ _ _ _ => trivial) (Eq.refl true) ?_
            intro K hK
            gi_big_quiet_op
            gi_big_quiet_call ((gi_at_call 134; exact CallsIn.quiet_of_same (callsIn_wide.2 ((NR.out _).mono fun _ _ h => ⟨h.1, h.2.symm⟩))))
            repeat (gi_big_quiet_step (fail))
            refine wpQuietIn_nil ?_
            intro _ hw'
            obtain ⟨nq, hw''⟩ := hw'
            subst hw''
            clear c0 d0 j0 j1 r2
            have BQ : Below wr.heap.size wr (wr.drewN nq) := bdn (Below.refl _ _)
            have HA3 := Lib.hid (HA.out.below BQ HA.out.lt HA.out.bel.size)
            have HM3 := Lib.hid (HM.out.below BQ)
            have HK3 := Lib.hid (HK.out.below BQ HA.out.bel.size (by have := HK.out.kp.size; have := HSZ.out; have := LTB.out; omega))
            have HSZ3 := Lib.hid (show w3.heap.size ≤ (wr.drewN nq).heap.size from Nat.le_trans HSZ.out (HK.out.kp.size))
            clear BQ HA HM HK NR
            generalize wr.drewN nq = wq at *
            by_cases hez : er = 0
            · subst hez
              have HBD := Lib.hid (HNX.out kk rfl)
              have hgs := HGS.out kk HNZ.out.symm
              have HGS2 := Lib.hid hgs
              have c1 := HM3.out.c1
              have hvl := HNm.out.vl
              have e0 := HM3.out.ov.cell hvl.symm y (by rw [hvl]; exact hy)
              have fz := HM3.out.ov.frozen hvl.symm y
              have HA4 := Lib.hid (HA3.out.setO (p := ⟨gC, y, none⟩) (by have := LTS.out.2.1; show n + 3 ≤ gC; omega) (by have := HN.out; omega) (.int .i64 kk))
              have HM4 := Lib.hid (HM3.out.setC y kk hvl)
              have HK4 := Lib.hid (HK3.out.set (p := ⟨gC, y, none⟩) (by have := LTS.out.2.1; have := HN.out; show _ ≤ gC; omega) (by have := LTB.out; show gC ≠ Ba; omega) (.int .i64 kk))
              have HN4 := Lib.hid (HNm.out.put hy (M := mb) hmb (by have := HBD.out; have := HMB.out; omega : 0 ≤ kk ∧ kk ≤ 4095))
              rw [HMB.out] at HN4
              have HSZ4 := Lib.hid (show w3.heap.size ≤ (wq.setCell ⟨gC, y, none⟩ (.int .i64 kk)).heap.size by rw [World.size_setCell]; exact HSZ3.out)
              clear HGS HGF HNX HNE hgs HA3 HM3 HK3 hvl
              gi_wp2
              exact ⟨HK4.out.kf, HK4.out.kp, ⟨_, _, HA4.out, HM4.out, HN4.out, HGS2.out⟩, HSZ4.out⟩
            · have hne := HNE.out hez
              have hkk : er = 15 := by injection hne
              subst hkk
              have HNO := Lib.hid (HGF.out (by rw [← HNZ.out]; show (15 : Int) ≠ 0; omega))
              have P := Lib.hid (HA3.out.put (by have := HN.out; omega) ((none, 0, 0), (none, 0, 0)) 15)
              have c20 := HA3.out.c20
              have c21 := HA3.out.c21
              have c3 := HA3.out.c3
              have f20 := HA3.out.f2 0
              have f21 := HA3.out.f2 1
              have f30 := HA3.out.f3 0
              have HK4 := Lib.hid (((HK3.out.set (p := ⟨n + 1, 0, none⟩) (by have := HN.out; show _ ≤ n + 1; omega) (by have := LTB.out; show n + 1 ≠ Ba; omega) (.slice none 0 0)).set (p := ⟨n + 1, 1, none⟩) (by have := HN.out; show _ ≤ n + 1; omega) (by have := LTB.out; show n + 1 ≠ Ba; omega) (.slice none 0 0)).set (p := ⟨n + 1 + 1, 0, none⟩) (by have := HN.out; show _ ≤ n + 1 + 1; omega) (by have := LTB.out; show n + 1 + 1 ≠ Ba; omega) (.int .i64 15))
              have HSZ4 := Lib.hid (show w3.heap.size ≤ (((wq.setCell ⟨n + 1, 0, none⟩ (.slice none 0 0)).setCell ⟨n + 1, 1, none⟩ (.slice none 0 0)).setCell ⟨n + 1 + 1, 0, none⟩ (.int .i64 15)).heap.size by rw [World.size_setCell, World.size_setCell, World.size_setCell]; exact HSZ3.out)
              clear HGS HGF HNX HNE hne HA3 HM3 HK3
              gi_wp2
              exact ⟨HK4.out.kf, rfl, P.out.1, P.out.2.1, P.out.2.2.1, P.out.2.2.2, HNO.out, HSZ4.out⟩
      case done =>
        intro D zs W hD hzs hI hD2
        obtain ⟨⟨bs, v, a1, a2, a3, a4⟩, hsz⟩ := hI
        rw [hzs] at a4
        clear hzs
        have HSOL := Lib.hid (a4.done (formOk_of HE.out).blk)
        have P := Lib.hid (a1.put (by have := HN.out; omega) ((some ⟨gB, 0, none⟩, L, L), (some ⟨gC, 0, none⟩, L, L)) 0)
        have HOB := Lib.hid a2.ob
        have HOV := Lib.hid a2.ov
        have c20 := a1.c20
        have c21 := a1.c21
        have c3 := a1.c3
        have f20 := a1.f2 0
        have f21 := a1.f2 1
        have f30 := a1.f3 0
        have c0 := a2.c0
        have c1 := a2.c1
        have HD := Lib.hid (And.intro hD (And.intro hsz hD2))
        clear a1 a2 a3 a4 hcA hD2 hsz hD
        gi_wp2
        go_wp2_with fail
        have hlb := LTB.out
        have hnn := HN.out
        refine SvF.leaves (B := w3.heap.size) (n := n) (d := ((some ⟨gB, 0, none⟩, L, L), (some ⟨gC, 0, none⟩, L, L))) (er := 0) (bs := bs) (v := v) ⟨P.out.1, P.out.2.1, P.out.2.2.1, P.out.2.2.2, ?_, ?_, ?_, ?_, by omega, by omega⟩ ?_ (Or.inr (Or.inr ⟨HE.out, rfl, HSOL.out⟩)) rfl _ rfl rfl _ ⟨⟨D, rfl, HD.out.1, ?_, fun d' h => (by cases h)⟩, trivial⟩
        · exact ((HOB.out.setO (p := ⟨n + 1, 0, none⟩) (by show n + 1 < n + 3; omega) _).setO (p := ⟨n + 1, 1, none⟩) (by show n + 1 < n + 3; omega) _).setO (p := ⟨n + 1 + 1, 0, none⟩) (by show n + 1 + 1 < n + 3; omega) _ |>.base (by omega)
        · exact ((HOV.out.setO (p := ⟨n + 1, 0, none⟩) (by show n + 1 < n + 3; omega) _).setO (p := ⟨n + 1, 1, none⟩) (by show n + 1 < n + 3; omega) _).setO (p := ⟨n + 1 + 1, 0, none⟩) (by show n + 1 + 1 < n + 3; omega) _ |>.base (by omega)
        · intro g h; have h2 : gB = g := by injection h
          omega
        · intro g h; have h2 : gC = g := by injection h
          omega
        · rw [World.size_setCell, World.size_setCell, World.size_setCell]; exact HD.out.2.1
        · have hDD := HD.out.1
          rw [Below.heap_setCell _ _ _ _ (by show D ≠ n + 1 + 1; omega), Below.heap_setCell _ _ _ _ (by show D ≠ n + 1; omega), Below.heap_setCell _ _ _ _ (by show D ≠ n + 1; omega)]
          exact HD.out.2.2
      case stop =>
        rintro D co pre W hD hSp ⟨rfl, hX⟩ hD2
        have HNO := Lib.hid (hX.no hSp)
        gi_wp2
        have hlb := LTB.out
        have hnn := HN.out
        exact SvF.leaves (B := w3.heap.size) (n := n) (d := ((none, 0, 0), (none, 0, 0))) (er := 15) (bs := []) (v := []) ⟨hX.bel, hX.c0, hX.c1, hX.c2, Own.nil, Own.nil, (fun g h => (by cases h)), (fun g h => (by cases h)), by omega, by omega⟩ hX.sz (Or.inr (Or.inl ⟨HE.out, rfl, rfl, rfl, HNO.out⟩)) rfl _ rfl rfl _ ⟨⟨D, rfl, hD, hD2, fun d' h => (by cases h)⟩, trivial⟩
  · have HE := Lib.hid he
    have hne : (validR l wt != 0) = true := bne_iff_ne.2 he
    have P := Lib.hid (S2.out.put (by have := HN.out; omega) ((none, 0, 0), (none, 0, 0)) (validR l wt))
    clear he
    go_wp2_with fail
    refine SvF.leaves (B := w2.heap.size) (d := ((none, 0, 0), (none, 0, 0))) (bs := []) (v := []) ⟨P.out.1, P.out.2.1, P.out.2.2.1, P.out.2.2.2, Own.nil, Own.nil, (fun g h => (by cases h)), (fun g h => (by cases h)), S2.out.lt, S2.out.bel.size⟩ (by rw [World.size_setCell, World.size_setCell, World.size_setCell]; exact Nat.le_refl _) (Or.inl ⟨HE.out, rfl, rfl, rfl⟩) rfl _ rfl rfl [] trivial
end Go.Proofs.YtimkmieohkefiaaGreat
