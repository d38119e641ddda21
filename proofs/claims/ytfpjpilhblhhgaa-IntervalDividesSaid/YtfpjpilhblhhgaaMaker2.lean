/-
  The maker's further calls: From, Pick, Valid, New.
-/
import Derived.Test.YtfpjpilhblhhgaaMaker
set_option linter.unusedSimpArgs false
set_option linter.unusedVariables false
namespace Go.Proofs.Ytfpjpilhblhhgaa
open Go.RowKit

set_option maxHeartbeats 400000 in
theorem from_any (m N : Nat) (a b : Int) (w : World) (h : IsMk w m N) (hN : N ≤ 1000000000000) (h1 : a ≤ b) (h2 : -1000000000000000 ≤ a) (h3 : b ≤ 1000000000000000) :
    Calls Try.prog 20 #[.pointer (some ⟨m, 0, none⟩), .int .i64 a, .int .i64 b] w (NextPost m (N + 1) a b w) := by
  go_enter Try.func20, Try.ntmps20
  go_wp2_with fail
  refine (next_any m N _ _ h hN (by omega) (by omega)).mono ?_
  rintro e w1 ⟨v, rfl, v1, v2, k1, k2⟩
  go_wp2_with fail
  go_ret
  exact NextPost.mk' (a + v) rfl (by omega) (by omega) k1 k2

/-- What Pick leaves: one of the numbers of the list. -/
def PickPost (m N : Nat) (P : Int → Prop) (w : World) (e : Ending) (w' : World) : Prop := ∃ v : Int, e = .returned (.int .i64 v) ∧ P v ∧ IsMk w' m N ∧ Moves m w w'

set_option maxHeartbeats 400000 in
theorem pick_any (m N : Nat) (P : Int → Prop) (b len cap : Nat) (w : World) (h : IsMk w m N) (hN : N ≤ 1000000000000) (h1 : 1 ≤ len) (h2 : len ≤ 1000000) (hb : b ≠ m) (hl : b < w.heap.size)
    (hc : ∀ i, i < len → ∃ z : Int, w.cell? ⟨b, i, none⟩ = some (.int .i64 z) ∧ P z) :
    Calls Try.prog 13 #[.pointer (some ⟨m, 0, none⟩), .slice (some ⟨b, 0, none⟩) len cap] w (PickPost m (N + 1) P w) := by
  have HC := Lib.hid hc
  clear hc
  go_enter Try.func13, Try.ntmps13
  go_wp2_with fail
  refine (next_any m N _ _ h hN (by omega) (by omega)).mono ?_
  rintro e w1 ⟨v, rfl, v1, v2, k1, k2⟩
  obtain ⟨i, rfl⟩ := Int.eq_ofNat_of_zero_le v1
  obtain ⟨z, hz, hp⟩ := HC.out i (by omega)
  have hz1 : w1.cell? ⟨b, i, none⟩ = some (.int .i64 z) := (k2.cell (p := ⟨b, i, none⟩) hl hb).trans hz
  have v3 : (i : Int) < (len : Int) := by omega
  go_wp2_with fail
  go_ret
  exact ⟨z, rfl, hp, k1, k2⟩

/-- The cells and marks of an old block other than m, behind a call of the maker. -/
theorem mcell {m : Nat} {W w1 : World} (hb : Moves m W w1) (b : Nat) (h : b < W.heap.size) (hm : b ≠ m) : (∀ o, w1.cell? ⟨b, o, none⟩ = W.cell? ⟨b, o, none⟩) ∧ (∀ o, w1.frozen? ⟨b, o, none⟩ = W.frozen? ⟨b, o, none⟩) :=
  ⟨fun o => hb.cell (p := ⟨b, o, none⟩) h hm, fun o => hb.frozen (p := ⟨b, o, none⟩) h hm⟩

/-- What Valid leaves: a valid interval of small numbers. -/
def IvlPost (m N : Nat) (P : Int → Int → Prop) (w : World) (e : Ending) (w' : World) : Prop := ∃ lo hi : Int, e = .returned (ivl lo hi) ∧ P lo hi ∧ IsMk w' m N ∧ Moves m w w'

set_option maxHeartbeats 400000 in
theorem mvalid_any (m N : Nat) (w : World) (h : IsMk w m N) (hN : N ≤ 100000000000) :
    Calls Try.prog 19 #[.pointer (some ⟨m, 0, none⟩)] w (IvlPost m (N + 2) (fun lo hi => -60 ≤ lo ∧ lo ≤ 60 ∧ lo ≤ hi ∧ hi ≤ lo + 39) w) := by
  have hm := h.lt
  go_enter Try.func19, Try.ntmps19
  go_wp2_with fail
  refine (from_any m N _ _ _ (h.alloc _) (by omega) (by omega) (by omega) (by omega)).mono ?_
  rintro e w1 ⟨v, rfl, v1, v2, k1, k2⟩
  obtain ⟨c1, f1⟩ := mcell k2 w.heap.size (by simp) (by omega)
  have z1 : w.heap.size < w1.heap.size := by have := k2.size; simp at this; omega
  go_wp2_with fail
  refine (next_any m (N + 1) _ _ k1 (by omega) (by omega) (by omega)).mono ?_
  rintro e w2 ⟨u, rfl, u1, u2, k3, k4⟩
  obtain ⟨c2, f2⟩ := mcell k4 w.heap.size z1 (by omega)
  have z2 : w.heap.size < w2.heap.size := by have := k4.size; omega
  go_wp2_with fail
  refine bodyPost_ret (v := ivl v (v + u)) (by simp [results, Try.results19, go_sem, c1, f1, c2, f2, z2]) rfl ⟨v, v + u, rfl, ⟨by omega, by omega, by omega, by omega⟩, ?_, ?_⟩
  · exact ((k3.setCell hm _).setCell hm _)
  · exact Moves.setCell (m := m) (Moves.setCell (m := m) (((Moves.refl m w).alloc _).trans (k2.trans k4)) (Or.inr (Nat.le_refl _)) _) (Or.inr (Nat.le_refl _)) _

theorem cell_new (W : World) (cs : Array Value) (T : TypeId) (i : Nat) : (W.alloc (.cells cs T)).cell? ⟨W.heap.size, i, none⟩ = cs[i]? := by
  have e : (W.alloc (.cells cs T)).heap[W.heap.size]? = some (.cells cs T) := by
    show (W.heap.push _)[W.heap.size]? = _
    rw [Array.getElem?_push, if_pos rfl]
  unfold World.cell?
  rw [e]
  rfl

/-- The cells of a list of numbers that the call has just made. -/
theorem new_pick (W : World) (T : TypeId) (P : Int → Prop) (zs : List Int) (h : ∀ z ∈ zs, P z) (b : Nat) (hb : b = W.heap.size) (i : Nat) (hi : i < zs.length) :
    ∃ z : Int, (W.alloc (.cells (zs.map (Value.int .i64)).toArray T)).cell? ⟨b, i, none⟩ = some (.int .i64 z) ∧ P z := by
  subst hb
  refine ⟨zs[i], ?_, h _ (List.getElem_mem hi)⟩
  rw [cell_new]
  simp [hi]

set_option maxHeartbeats 800000 in
theorem minterval_any (m N : Nat) (w : World) (h : IsMk w m N) (hN : N ≤ 100000000000) :
    Calls Try.prog 12 #[.pointer (some ⟨m, 0, none⟩)] w (IvlPost m (N + 4) (fun lo hi => -4000000000000 ≤ lo ∧ lo ≤ 4000000000000 ∧ -4000000000000 ≤ hi ∧ hi ≤ 4000000000000) w) := by
  have hm := h.lt
  go_enter Try.func12, Try.ntmps12
  go_wp2_with fail
  refine (pick_any m N (fun v => -1000000000000 ≤ v ∧ v ≤ 1000000000000) _ 12 12 _ ((h.alloc _).alloc _) (by omega) (by omega) (by omega) (by simp; omega) (by simp) (by exact new_pick _ _ _ [0, 1, -1, 2, -5, 17, -40, 1000, -1000000000000, 1000000000000, 999999, -1000000] (by decide) _ (by simp))).mono ?_
  rintro e w1 ⟨v, rfl, ⟨v1, v2⟩, k1, k2⟩
  obtain ⟨c1, f1⟩ := mcell k2 w.heap.size (by simp; omega) (by omega)
  have z1 : w.heap.size < w1.heap.size := by have := k2.size; simp at this; omega
  have M1 : Moves m w w1 := (((Moves.refl m w).alloc _).alloc _).trans k2
  go_wp2_with fail
  refine (pick_any m (N + 1) (fun v => -2000000000000 ≤ v ∧ v ≤ 2000000000000) _ 9 9 _ (k1.alloc _) (by omega) (by omega) (by omega) (by have := k1.lt; omega) (by simp) (by exact new_pick _ _ _ [0, 1, 2, 3, 10, 100, 12345, 1000000000000, 2000000000000] (by decide) _ (by simp))).mono ?_
  rintro e w2 ⟨u, rfl, ⟨u1, u2⟩, k3, k4⟩
  obtain ⟨c2, f2⟩ := mcell k4 w.heap.size (by simp; omega) (by omega)
  have z2 : w.heap.size < w2.heap.size := by have := k4.size; simp at this; omega
  have M2 : Moves m w w2 := (M1.alloc _).trans k4
  clear k2 k4 M1
  go_wp2_with fail
  refine (next_any m (N + 1 + 1) _ _ k3 (by omega) (by omega) (by omega)).mono ?_
  rintro e w3 ⟨t, rfl, t1, t2, k5, k6⟩
  obtain ⟨c3, f3⟩ := mcell k6 w.heap.size z2 (by omega)
  have z3 : w.heap.size < w3.heap.size := by have := k6.size; omega
  have M3 := M2.trans k6
  clear k6 M2
  cases ht : (t == 0)
  · go_wp2_with fail
    refine bodyPost_ret (v := ivl v (v + u)) (by simp [results, Try.results12, go_sem, c1, f1, c2, f2, c3, f3, z1, z2, z3]) rfl ⟨v, v + u, rfl, ⟨by omega, by omega, by omega, by omega⟩, ?_, ?_⟩
    · exact (((k5.setCell hm _).setCell hm _).more (by omega))
    · exact Moves.setCell (m := m) (Moves.setCell (m := m) M3 (Or.inr (Nat.le_refl _)) _) (Or.inr (Nat.le_refl _)) _
  · go_wp2_with fail
    refine (next_any m (N + 1 + 1 + 1) _ _ k5 (by omega) (by omega) (by omega)).mono ?_
    rintro e w4 ⟨s, rfl, s1, s2, k7, k8⟩
    obtain ⟨c4, f4⟩ := mcell k8 w.heap.size z3 (by omega)
    have z4 : w.heap.size < w4.heap.size := by have := k8.size; omega
    have M4 := M3.trans k8
    clear k8 M3
    go_wp2_with fail
    refine bodyPost_ret (v := ivl v (v - 1 - s)) (by simp [results, Try.results12, go_sem, c1, f1, c2, f2, c3, f3, c4, f4, z1, z2, z3, z4]) rfl ⟨v, v - 1 - s, rfl, ⟨by omega, by omega, by omega, by omega⟩, ?_, ?_⟩
    · exact ((k7.setCell hm _).setCell hm _)
    · exact Moves.setCell (m := m) (Moves.setCell (m := m) M4 (Or.inr (Nat.le_refl _)) _) (Or.inr (Nat.le_refl _)) _

end Go.Proofs.Ytfpjpilhblhhgaa
