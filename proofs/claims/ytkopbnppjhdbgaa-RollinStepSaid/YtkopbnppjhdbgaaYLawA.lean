/-
  Stage 13: what the laws share: a made job in a block of its own, a maker that goes on, the plan of it.
-/
import Derived.Test.YtkopbnppjhdbgaaYSane
import Derived.Test.YtkopbnppjhdbgaaYThm
set_option linter.unusedSimpArgs false
set_option linter.unusedVariables false
namespace Go.Proofs.Ytkopbnppjhdbgaa
open Go.RowKit Go.Lib

/-- The steps of lesser codes. -/
theorem StepsOf.mono {v u : List Int} {a b : Int} (h : StepsOf v a) (k : StepsOf u b) (hl : v.length = u.length) (hle : ∀ y, v.getD y 0 ≤ u.getD y 0) : a ≤ b := by
  rcases h with ⟨e, rfl⟩ | ⟨M, hM, rfl⟩
  · rcases k with ⟨_, rfl⟩ | ⟨N, hN, rfl⟩
    · exact Int.le_refl _
    · omega
  · rcases k with ⟨e, rfl⟩ | ⟨N, hN, rfl⟩
    · obtain ⟨x, hx, _⟩ := hM.hit
      rw [hl, e] at hx; cases hx
    · rw [← hl] at hN
      have h1 := hM.mono hN (fun y _ => hle y)
      have := ln_mono (a := M.toNat) (b := N.toNat) (by omega)
      omega
/-- A made job in a block of its own, and its maker. -/
structure JM (w wr : World) (b : Nat) (A : Option Addr) (c : Nat) (l : List It) (wt : Int) (N : Nat) : Prop where
  box : JBox wr b A l.length c wt
  fz : ∀ j, wr.frozen? ⟨b, j, none⟩ = false
  own : IOwn 29 wr (w.heap.size + 1) (.slice A l.length c) l
  lo : ∀ g, (Value.slice A l.length c).ownBlock = some g → g < b
  bel : Below w.heap.size w wr
  val : validR l wt = 0
  run : runM 0 l
  wt_ : 0 ≤ wt ∧ wt ≤ 12
  mkr : IsMk wr w.heap.size N
  lt : w.heap.size < b
theorem JM.irow {w wr : World} {b c N : Nat} {A : Option Addr} {l : List It} {wt : Int} (h : JM w wr b A c l wt N) : IRow wr A l := h.own.irow
theorem IOwn.under {T : TypeId} {W W' : World} {base B : Nat} {v : Value} {l : List It} (h : IOwn T W base v l) (k : Below B W W') (hg : ∀ g, v.ownBlock = some g → g < B) : IOwn T W' base v l := by
  refine ⟨h.1, ?_⟩
  rcases h.2 with q | ⟨g, cap, cur, e1, e2, e3, e4⟩
  · exact Or.inl q
  · exact Or.inr ⟨g, cap, cur, e1, e2, (k.block g (hg g (by rw [e1]; rfl))).trans e3, e4⟩
theorem JM.under {w wr w' : World} {b c N B : Nat} {A : Option Addr} {l : List It} {wt : Int} (h : JM w wr b A c l wt N) (k : Below B wr w') (hB : b < B) : JM w w' b A c l wt N :=
  ⟨h.box.below k hB, fun j => (k.frozen (p := ⟨b, j, none⟩) hB).trans (h.fz j), h.own.under k (fun g hg => Nat.lt_trans (h.lo g hg) hB), h.lo, h.bel.trans (k.mono (by have := h.lt; omega)), h.val, h.run, h.wt_, h.mkr.stays (k.mono (by have := h.lt; omega)), h.lt⟩
theorem JM.below {w wr w' : World} {b c N : Nat} {A : Option Addr} {l : List It} {wt : Int} (h : JM w wr b A c l wt N) (k : Below wr.heap.size wr w') : JM w w' b A c l wt N := h.under k h.box.lt
theorem JM.drewN {w wr : World} {b c N : Nat} {A : Option Addr} {l : List It} {wt : Int} (h : JM w wr b A c l wt N) (n : Nat) : JM w (wr.drewN n) b A c l wt N := h.below ⟨rfl, rfl, rfl, Nat.le_refl _, fun _ _ => rfl⟩
/-- The maker has gone on. -/
theorem JM.step {w wr w' : World} {b c N M : Nat} {A : Option Addr} {l : List It} {wt : Int} (h : JM w wr b A c l wt N) (k : Moves w.heap.size wr w') (g : IsMk w' w.heap.size M) : JM w w' b A c l wt M :=
  ⟨h.box.moves k (by have := h.lt; omega), fun j => (k.frozen (p := ⟨b, j, none⟩) h.box.lt (by have := h.lt; show b ≠ _; omega)).trans (h.fz j), h.own.moves k (Nat.lt_succ_self _), h.lo, k.below h.bel (Nat.le_refl _) h.bel.size, h.val, h.run, h.wt_, g, h.lt⟩
theorem JM.form {w a : World} {b c N : Nat} {A : Option Addr} {l : List It} {wt : Int} (h : JM w a b A c l wt N) : FormOk l wt := formOk_of h.val
theorem mjob_start (w w1 : World) (n : Nat) (hn : n ≤ 96) (K : IsMk w1 w.heap.size 0) (B : Below w.heap.size w w1) {Q : Ending → World → Prop}
    (h : ∀ jA jc l wt w2, l.length ≤ n → w.heap.size < w2.heap.size → (∀ b, b = w2.heap.size → JM w (w2.alloc (.cells #[.slice jA l.length jc, .int .i64 wt] 24)) b jA jc l wt (5 + 5 * n)) → Q (.returned (jv jA l.length jc wt)) w2) :
    Calls Try.prog 16 #[.pointer (some ⟨w.heap.size, 0, none⟩), .int .i64 (n : Int)] w1 Q := by
  refine (mjob_any w.heap.size 0 n w1 K (by omega) (by omega)).mono ?_
  rintro e w2 ⟨jA, jc, l, wt, rfl, O, hl, hrun, hwt, K2, V⟩
  refine h jA jc l wt w2 hl K2.lt (fun b hb => ?_)
  subst hb
  have BB := (Below.refl w2.heap.size w2).alloc (Nat.le_refl _) (.cells #[.slice jA l.length jc, .int .i64 wt] 24)
  have hb1 : w.heap.size + 1 ≤ w1.heap.size := K.lt
  exact ⟨JBox.new _ rfl, fun j => frozen_new _ _ _ _ _ rfl, (O.base hb1).below BB, fun g hg => (O.block hg).2, (V.below B (Nat.le_refl _) B.size).trans (BB.mono (Nat.le_of_lt K2.lt)), valid_of (by omega) hrun hwt, hrun, hwt, (K2.more (by omega)).stays' BB, K2.lt⟩
/-- What Least answers of a valid job. -/
theorem LeastR.valid {l : List It} {wt st er : Int} {v : List Int} (hv : validR l wt = 0) (h : LeastR l wt st v er) : (er = 15 ∧ v = [] ∧ st = 0 ∧ ∀ bs' v', ¬ Sol l wt bs' v') ∨ (er = 0 ∧ ∃ bs, Sol l wt bs v ∧ StepsOf v st) := by
  rcases h with ⟨h1, _⟩ | ⟨_, h2, h3, h4, h5⟩ | ⟨_, h2, ⟨bs, h3⟩, h4⟩
  · exact absurd hv h1
  · exact Or.inl ⟨h2, h3, h4, h5⟩
  · exact Or.inr ⟨h2, bs, h3, h4⟩
theorem WitR.valid {l : List It} {wt er : Int} {zs : List Int} (hv : validR l wt = 0) (h : WitR l wt zs er) : (er = 15 ∧ zs = [] ∧ ∀ bs' v', ¬ Sol l wt bs' v') ∨ (er = 0 ∧ ∃ bs v, Sol l wt bs v ∧ ((l.length = 0 ∧ zs = []) ∨ ∃ y c, IsTop v y ∧ IsBackB l v bs y c ∧ zs = toZ c)) := by
  rcases h with ⟨h1, _⟩ | ⟨_, h2, h3, h4⟩ | ⟨_, h2, h3⟩
  · exact absurd hv h1
  · exact Or.inl ⟨h2, h3, h4⟩
  · exact Or.inr ⟨h2, h3⟩
/-- The plan in a block of its own, with its codes. -/
structure PSt (wr : World) (m g : Nat) (st : Int) (A : Option Addr) (n c : Nat) (v : List Int) : Prop where
  box : PBox wr g st A n c
  own : Own .i64 3 wr (m + 1) (.slice A n c) v
  lo : ∀ q, (Value.slice A n c).ownBlock = some q → q < g
  len : n = v.length
  lt : m < g
theorem PSt.row {w : World} {m g n c : Nat} {st : Int} {A : Option Addr} {v : List Int} (h : PSt w m g st A n c v) : Row .i64 w w.heap.size A v ∧ v.length ≤ maxLen := by
  obtain ⟨A', c', ev, LR, -, hm, -⟩ := h.own.slice
  have e1 : A = A' := by injection ev
  subst e1
  exact ⟨LR, hm⟩
theorem PSt.under {w w' : World} {m g n c B : Nat} {st : Int} {A : Option Addr} {v : List Int} (h : PSt w m g st A n c v) (k : Below B w w') (hB : g < B) : PSt w' m g st A n c v :=
  ⟨h.box.below k hB, h.own.underB k (fun q hq => Nat.lt_trans (h.lo q hq) hB), h.lo, h.len, h.lt⟩
theorem PSt.below {w w' : World} {m g n c : Nat} {st : Int} {A : Option Addr} {v : List Int} (h : PSt w m g st A n c v) (k : Below w.heap.size w w') : PSt w' m g st A n c v := h.under k h.box.lt
theorem PBox.moves {m : Nat} {w w' : World} {b n c : Nat} {st : Int} {A : Option Addr} (h : PBox w b st A n c) (k : Moves m w w') (hb : b ≠ m) : PBox w' b st A n c :=
  ⟨(k.cell (p := ⟨b, 0, none⟩) h.lt hb).trans h.c0, (k.cell (p := ⟨b, 1, none⟩) h.lt hb).trans h.c1, fun j => (k.frozen (p := ⟨b, j, none⟩) h.lt hb).trans (h.f j), Nat.lt_of_lt_of_le h.lt k.size⟩
theorem PSt.step {w w' : World} {m g n c : Nat} {st : Int} {A : Option Addr} {v : List Int} (h : PSt w m g st A n c v) (k : Moves m w w') : PSt w' m g st A n c v :=
  ⟨h.box.moves k (by have := h.lt; omega), h.own.moves k (Nat.lt_succ_self _), h.lo, h.len, h.lt⟩
theorem PSt.new {w2 : World} {base m n c : Nat} {st : Int} {A : Option Addr} {v : List Int} (O : Own .i64 3 w2 base (.slice A n c) v) (hb : m + 1 ≤ base) (g : Nat) (hg : g = w2.heap.size) (hm : m < g) : PSt (w2.alloc (.cells #[.int .i64 st, .slice A n c] 27)) m g st A n c v := by
  obtain ⟨A', c', ev, LR, -, -, -⟩ := O.slice
  have e2 : n = v.length := by injection ev
  exact ⟨PBox.new g hg, (O.base hb).below ((Below.refl _ _).alloc (Nat.le_refl _) _), fun q hq => by rw [hg]; exact (own_block O hq).2, e2, hm⟩
end Go.Proofs.Ytkopbnppjhdbgaa
