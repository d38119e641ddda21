/-
  The maker of inputs: a block with a list and a counter. Its calls hand back numbers within bounds and turn nothing but the counter.
-/
import Derived.Test.YtknkgcphamhjlaaBase
set_option linter.unusedSimpArgs false
set_option linter.unusedVariables false
namespace Go.Proofs.Ytknkgcphamhjlaa
open Go.RowKit

/-- Of the blocks that were there, none has turned but block m. -/
structure Moves (m : Nat) (w w' : World) : Prop where
  os : w'.os = w.os
  tape : w'.tape = w.tape
  output : w'.output = w.output
  size : w.heap.size ≤ w'.heap.size
  block : ∀ k, k < w.heap.size → k ≠ m → w'.heap[k]? = w.heap[k]?

theorem Moves.refl (m : Nat) (w : World) : Moves m w w := ⟨rfl, rfl, rfl, Nat.le_refl _, fun _ _ _ => rfl⟩
theorem Moves.trans {m : Nat} {a b c : World} (h : Moves m a b) (k : Moves m b c) : Moves m a c :=
  ⟨k.os.trans h.os, k.tape.trans h.tape, k.output.trans h.output, Nat.le_trans h.size k.size, fun i hi hm => (k.block i (Nat.lt_of_lt_of_le hi h.size) hm).trans (h.block i hi hm)⟩
theorem Moves.of_below {m : Nat} {a b : World} (h : Below a.heap.size a b) : Moves m a b :=
  ⟨h.os, h.tape, h.output, h.size, fun k hk _ => h.block k hk⟩
theorem Moves.drewN {m : Nat} {a b : World} {n : Nat} (h : Moves m a b) : Moves m a (b.drewN n) := ⟨h.os, h.tape, h.output, h.size, h.block⟩
theorem Moves.alloc {m : Nat} {a b : World} (h : Moves m a b) (o : Obj) : Moves m a (b.alloc o) :=
  h.trans ⟨rfl, rfl, rfl, by simp, fun k hk _ => Below.heap_alloc _ _ _ (by omega)⟩
/-- A store into block m, or into one that came later. -/
theorem Moves.setCell {m : Nat} {a b : World} (h : Moves m a b) {p : Addr} (hp : p.block = m ∨ a.heap.size ≤ p.block) (u : Value) : Moves m a (b.setCell p u) :=
  ⟨h.os, h.tape, h.output, by rw [World.size_setCell]; exact h.size, fun k hk hm => by
    rw [Below.heap_setCell _ _ _ _ (by omega)]; exact h.block k hk hm⟩
theorem Moves.cell {m : Nat} {w w' : World} (h : Moves m w w') {p : Addr} (hp : p.block < w.heap.size) (hm : p.block ≠ m) : w'.cell? p = w.cell? p := World.cell?_of_block (w := w) (h.block p.block hp hm)
theorem Moves.frozen {m : Nat} {w w' : World} (h : Moves m w w') {p : Addr} (hp : p.block < w.heap.size) (hm : p.block ≠ m) : w'.frozen? p = w.frozen? p := World.frozen?_of_block (w := w) (h.block p.block hp hm)
/-- Where m is one of the call's own blocks, old memory has not turned. -/
theorem Moves.below {m B : Nat} {a b c : World} (h : Below B a b) (k : Moves m b c) (hm : B ≤ m) (hB : B ≤ b.heap.size) : Below B a c :=
  h.trans ⟨k.os, k.tape, k.output, k.size, fun i hi => k.block i (by omega) (by omega)⟩

/-- Block m is a maker that has made at most N numbers. -/
structure IsMk (w : World) (m : Nat) (N : Nat) : Prop where
  lt : m < w.heap.size
  cnt : ∃ n : Nat, n ≤ N ∧ w.cell? ⟨m, 1, none⟩ = some (.int .i64 n)
  thaw : w.frozen? ⟨m, 1, none⟩ = false
  list : ∃ (a : Option Addr) (len cap : Nat), w.cell? ⟨m, 0, none⟩ = some (.slice a len cap) ∧ len ≤ maxLen ∧
    (len = 0 ∨ ∃ b off, a = some ⟨b, off, none⟩ ∧ b < m ∧ ∀ i, i < len → ∃ z : Int, w.cell? ⟨b, off + i, none⟩ = some (.int .i64 z) ∧ -9223372036854775808 ≤ z ∧ z ≤ 9223372036854775807)

/-- A maker stays one while the blocks up to it stay. -/
theorem IsMk.stays {w w' : World} {m N : Nat} (h : IsMk w m N) (k : Below (m + 1) w w') : IsMk w' m N := by
  obtain ⟨h1, ⟨n, hn, hc⟩, h3, a, len, cap, h4, h5, h6⟩ := h
  have hs := k.size
  refine ⟨by omega, ⟨n, hn, by rw [k.cell (p := ⟨m, 1, none⟩) (Nat.lt_succ_self m)]; exact hc⟩, by rw [k.frozen (p := ⟨m, 1, none⟩) (Nat.lt_succ_self m)]; exact h3, a, len, cap, by rw [k.cell (p := ⟨m, 0, none⟩) (Nat.lt_succ_self m)]; exact h4, h5, ?_⟩
  rcases h6 with h6 | ⟨b, off, e, hb, h6⟩
  · exact Or.inl h6
  · refine Or.inr ⟨b, off, e, hb, fun i hi => ?_⟩
    obtain ⟨z, hz, hz2⟩ := h6 i hi
    exact ⟨z, by rw [k.cell (p := ⟨b, off + i, none⟩) (Nat.lt_succ_of_lt hb)]; exact hz, hz2⟩
theorem IsMk.stays' {w w' : World} {m N : Nat} (h : IsMk w m N) (k : Below w.heap.size w w') : IsMk w' m N := h.stays (k.mono h.lt)
theorem IsMk.alloc {w : World} {m N : Nat} (h : IsMk w m N) (o : Obj) : IsMk (w.alloc o) m N := h.stays' ((Below.refl _ _).alloc (Nat.le_refl _) _)
theorem IsMk.drewN {w : World} {m N n : Nat} (h : IsMk w m N) : IsMk (w.drewN n) m N := h.stays' ⟨rfl, rfl, rfl, Nat.le_refl _, fun _ _ => rfl⟩
/-- A store into a younger block. -/
theorem IsMk.setCell {w : World} {m N : Nat} (h : IsMk w m N) {p : Addr} (hp : m < p.block) (u : Value) : IsMk (w.setCell p u) m N := h.stays ((Below.refl _ _).setCell hp u)

theorem IsMk.more {w : World} {m N M : Nat} (h : IsMk w m N) (k : N ≤ M) : IsMk w m M := by
  obtain ⟨h1, ⟨n, hn, hc⟩, h3, h4⟩ := h
  exact ⟨h1, ⟨n, by omega, hc⟩, h3, h4⟩

/-- The counter goes on by one. -/
theorem IsMk.step {w : World} {m N n : Nat} {j : Nat} (h : IsMk w m N) (hn : n ≤ N) (hc : w.cell? ⟨m, 1, none⟩ = some (.int .i64 n)) : IsMk ((w.drewN j).setCell ⟨m, 1, none⟩ (.int .i64 (n + 1))) m (N + 1) := by
  obtain ⟨h1, _, h3, a, len, cap, h4, h5, h6⟩ := h
  have hd : ∀ p, (w.drewN j).cell? p = w.cell? p := fun p => World.cell?_of_block (w := w) rfl
  have hz : ((w.drewN j).setCell ⟨m, 1, none⟩ (.int .i64 (n + 1))).heap.size = w.heap.size := by rw [World.size_setCell]; rfl
  refine ⟨by rw [hz]; exact h1, ⟨n + 1, by omega, World.cell?_setCell_same _ _ _ ((hd _).trans hc)⟩, by rw [World.frozen?_setCell]; exact h3, a, len, cap, ?_, h5, ?_⟩
  · rw [World.cell?_setCell_other _ _ _ _ (by simp), hd]; exact h4
  · rcases h6 with h6 | ⟨b, off, e, hb, h6⟩
    · exact Or.inl h6
    · refine Or.inr ⟨b, off, e, hb, fun i hi => ?_⟩
      obtain ⟨z, hz, hz2⟩ := h6 i hi
      exact ⟨z, by rw [World.cell?_setCell_other _ _ _ _ (fun e => by have := congrArg Addr.block e; simp at this; omega), hd]; exact hz, hz2⟩

/-- What Next and its like leave. -/
def NextPost (m N : Nat) (lo hi : Int) (w : World) (e : Ending) (w' : World) : Prop := ∃ v : Int, e = .returned (.int .i64 v) ∧ lo ≤ v ∧ v ≤ hi ∧ IsMk w' m N ∧ Moves m w w'

theorem NextPost.mk' {m N : Nat} {lo hi : Int} {w w' : World} {e : Ending} (v : Int) (h1 : e = .returned (.int .i64 v)) (h2 : lo ≤ v) (h3 : v ≤ hi) (h4 : IsMk w' m N) (h5 : Moves m w w') : NextPost m N lo hi w e w' := ⟨v, h1, h2, h3, h4, h5⟩

theorem tmod_in (x k : Int) (hk : 1 ≤ k) : -k < x.tmod k ∧ x.tmod k < k := by
  have hm : (x.tmod k).natAbs < k.natAbs := by
    rw [Int.natAbs_tmod]; exact Nat.mod_lt _ (by omega)
  omega

set_option maxHeartbeats 400000 in
theorem next_any (m N : Nat) (k : Int) (w : World) (h : IsMk w m N) (hN : N ≤ 1000000000000) (hk : 1 ≤ k) (hk2 : k ≤ 4611686018427387904) :
    Calls Try.prog 16 #[.pointer (some ⟨m, 0, none⟩), .int .i64 k] w (NextPost m (N + 1) 0 (k - 1) w) := by
  have H := h
  obtain ⟨h1, ⟨n, hn, hc⟩, h3, a, len, cap, h4, h5, h6⟩ := h
  have hk0 : (k == 0) = false := beq_eq_false_iff_ne.2 (by omega)
  have fin : ∀ j, IsMk ((w.drewN j).setCell ⟨m, 1, none⟩ (.int .i64 (n + 1))) m (N + 1) := fun j => H.step hn hc
  have fin0 : IsMk (w.setCell ⟨m, 1, none⟩ (.int .i64 (n + 1))) m (N + 1) := H.step (j := 0) hn hc
  have HM : Hid ((∀ j, IsMk ((w.drewN j).setCell ⟨m, 1, none⟩ (.int .i64 (n + 1))) m (N + 1)) ∧ IsMk (w.setCell ⟨m, 1, none⟩ (.int .i64 (n + 1))) m (N + 1)) := Lib.hid ⟨fin, fin0⟩
  clear fin fin0 H
  rcases h6 with rfl | ⟨b, off, rfl, hb, h6⟩
  · go_enter Try.func16, Try.ntmps16
    go_wp2
    go_ret
    exact NextPost.mk' 0 rfl (by omega) (by omega) HM.out.2 (Moves.setCell (m := m) (Moves.refl m w) (Or.inl rfl) _)
  · by_cases hp : len = 0
    · subst hp
      clear h6
      go_enter Try.func16, Try.ntmps16
      go_wp2
      go_ret
      exact NextPost.mk' 0 rfl (by omega) (by omega) HM.out.2 (Moves.setCell (m := m) (Moves.refl m w) (Or.inl rfl) _)
    · obtain ⟨z, hz, z1, z2⟩ := h6 (n % len) (Nat.mod_lt _ (by omega))
      clear h6
      have l0 : (0 : Int) < (len : Int) := by omega
      have l1 : ((len : Int) == 0) = false := beq_eq_false_iff_ne.2 (by omega)
      have l2 : 0 ≤ (n : Int) % (len : Int) := Int.emod_nonneg _ (by omega)
      have l3 : (n : Int) % (len : Int) < (len : Int) := Int.emod_lt_of_pos _ l0
      have l4 : 0 ≤ (n : Int) / (len : Int) := Int.ediv_nonneg (by omega) (by omega)
      have l5 : (n : Int) / (len : Int) ≤ n := Int.ediv_le_self _ (by omega)
      clear hp
      go_enter Try.func16, Try.ntmps16
      go_wp2_with fail
      go_quiet (fail)
      go_wp2_with fail
      · have tb := tmod_in (wrap64 (z + (n : Int) / (len : Int) * 7919)) k hk
        go_ret
        refine NextPost.mk' (wrap64 ((wrap64 (z + (n : Int) / (len : Int) * 7919)).tmod k + k)) rfl ?_ ?_ (HM.out.1 _) (Moves.setCell (m := m) (Moves.refl m w).drewN (Or.inl rfl) _)
        · rw [IntWalk.wrap64_in _ (by omega)]; omega
        · rw [IntWalk.wrap64_in _ (by omega)]; omega
      · have tb := tmod_in (wrap64 (z + (n : Int) / (len : Int) * 7919)) k hk
        go_ret
        refine NextPost.mk' ((wrap64 (z + (n : Int) / (len : Int) * 7919)).tmod k) rfl ?_ ?_ (HM.out.1 _) (Moves.setCell (m := m) (Moves.refl m w).drewN (Or.inl rfl) _)
        · assumption
        · omega

/-- The cells and marks of an old block other than m, behind a call of the maker. -/
theorem mcell {m : Nat} {W w1 : World} (hb : Moves m W w1) (b : Nat) (h : b < W.heap.size) (hm : b ≠ m) : (∀ o, w1.cell? ⟨b, o, none⟩ = W.cell? ⟨b, o, none⟩) ∧ (∀ o, w1.frozen? ⟨b, o, none⟩ = W.frozen? ⟨b, o, none⟩) :=
  ⟨fun o => hb.cell (p := ⟨b, o, none⟩) h hm, fun o => hb.frozen (p := ⟨b, o, none⟩) h hm⟩


theorem mk_new {w : World} {a : Option Addr} {len cap : Nat} {zs : List Int} {T : TypeId} (h : IsRow .i64 w a len cap zs) : IsMk (w.alloc (.cells #[.slice a len cap, .int .i64 0] T)) w.heap.size 0 := by
  have e : (w.alloc (.cells #[.slice a len cap, .int .i64 0] T)).heap[w.heap.size]? = some (.cells #[.slice a len cap, .int .i64 0] T) := by
    show (w.heap.push _)[w.heap.size]? = _
    rw [Array.getElem?_push, if_pos rfl]
  refine ⟨by simp, ⟨0, Nat.le_refl _, by rw [cell_new]; rfl⟩, ?_, a, len, cap, by rw [cell_new]; rfl, ?_, ?_⟩
  · unfold World.frozen?; rw [e]; rfl
  · rcases h with ⟨rfl, rfl, rfl, rfl⟩ | ⟨x, rfl, hl, hm, hz, hc, hw⟩
    · exact Nat.zero_le _
    · exact Nat.le_trans hl hm
  · rcases h with ⟨rfl, rfl, rfl, rfl⟩ | ⟨⟨b, off, spot⟩, rfl, hl, hm, hz, hc, hw⟩
    · exact Or.inl rfl
    · by_cases h0 : len = 0
      · exact Or.inl h0
      · have h1 := hc 0 (by omega)
        have hs : spot = none := by simpa [Addr.add] using World.cell?_spot h1
        subst hs
        have hb : b < w.heap.size := by simpa [Addr.add] using lt_of_cell h1
        refine Or.inr ⟨b, off, rfl, hb, fun i hi => ?_⟩
        have hi' : i < zs.length := by omega
        refine ⟨zs.getD i 0, ?_, ?_⟩
        · rw [((Below.refl w.heap.size w).alloc (Nat.le_refl _) _).cell (p := ⟨b, off + i, none⟩) hb]
          have g := hc i hi'
          by_cases i0 : i = 0
          · subst i0; simpa [Addr.add] using g
          · simpa [Addr.add, i0] using g
        · have := bounds_i64 (hw (zs.getD i 0) (by rw [List.getD_eq_getElem?_getD, List.getElem?_eq_getElem hi', Option.getD_some]; exact List.getElem_mem hi'))
          exact this

set_option maxHeartbeats 400000 in
theorem new_any (a : Option Addr) (len cap : Nat) (w : World) :
    Calls Try.prog 12 #[.slice a len cap] w fun e w' => e = .returned (.pointer (some ⟨w.heap.size, 0, none⟩)) ∧ w' = w.alloc (.cells #[.slice a len cap, .int .i64 0] 52) := by
  go_enter Try.func12, Try.ntmps12
  go_wp2
  go_ret
  exact ⟨rfl, rfl⟩

end Go.Proofs.Ytknkgcphamhjlaa

