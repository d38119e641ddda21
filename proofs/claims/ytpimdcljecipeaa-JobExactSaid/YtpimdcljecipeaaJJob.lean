/-
  Stage 11: the maker's Job.
-/
import Derived.Test.YtpimdcljecipeaaJMk
set_option linter.unusedSimpArgs false
set_option linter.unusedVariables false
namespace Go.Proofs.Ytpimdcljecipeaa
open Go.RowKit Go.Lib

theorem infoJob : (Try.prog.info? 25).map (fun i => (i.zero, i.size, i.bytes)) = some (some (.agg #[.slice none 0 0, .int .i64 0]), 2, 32) := by kernel_rfl
def JobPost (m M n : Nat) (w : World) (e : Ending) (w' : World) : Prop :=
  ∃ A c l wt, e = .returned (jv A l.length c wt) ∧ IOwn 44 w' w.heap.size (.slice A l.length c) l ∧ l.length ≤ n ∧ runM 0 l ∧ (0 ≤ wt ∧ wt ≤ 12) ∧ IsMk w' m M ∧ Moves m w w'
theorem JBox.moves {m : Nat} {w w' : World} {b n c : Nat} {A : Option Addr} {wt : Int} (h : JBox w b A n c wt) (k : Moves m w w') (hb : b ≠ m) : JBox w' b A n c wt :=
  ⟨(k.cell (p := ⟨b, 0, none⟩) h.lt hb).trans h.c0, (k.cell (p := ⟨b, 1, none⟩) h.lt hb).trans h.c1, Nat.lt_of_lt_of_le h.lt k.size⟩
theorem frozen_new (w : World) (cs : Array Value) (T : TypeId) (b j : Nat) (hb : b = w.heap.size) : (w.alloc (.cells cs T)).frozen? ⟨b, j, none⟩ = false := by
  subst hb
  have e : (w.alloc (.cells cs T)).heap[w.heap.size]? = some (.cells cs T) := by
    show (w.heap.push _)[w.heap.size]? = _
    rw [Array.getElem?_push, if_pos rfl]
  unfold World.frozen?; rw [e]; rfl
theorem JBox.put {w : World} {b n c n' c' : Nat} {A A' : Option Addr} {wt wt' : Int} (h : JBox w b A n c wt) : JBox ((w.setCell ⟨b, 0, none⟩ (.slice A' n' c')).setCell ⟨b, 1, none⟩ (.int .i64 wt')) b A' n' c' wt' := by
  have g : (w.setCell ⟨b, 0, none⟩ (.slice A' n' c')).cell? ⟨b, 1, none⟩ = some (.int .i64 wt) := by rw [World.cell?_setCell_other _ _ _ _ (by simp)]; exact h.c1
  refine ⟨?_, World.cell?_setCell_same _ _ _ g, by rw [World.size_setCell, World.size_setCell]; exact h.lt⟩
  rw [World.cell?_setCell_other _ _ _ _ (by simp)]; exact World.cell?_setCell_same _ _ _ h.c0
theorem IOwn.setOther {T : TypeId} {w : World} {base : Nat} {v : Value} {l : List It} (h : IOwn T w base v l) {p : Addr} (hp : v.ownBlock ≠ some p.block) (u : Value) : IOwn T (w.setCell p u) base v l := by
  refine h.kept (w' := w.setCell p u) (row := some p.block) ⟨rfl, rfl, rfl, by rw [World.size_setCell]; exact Nat.le_refl _, fun k hk hn => Below.heap_setCell _ _ _ _ (fun e => hn (by first | exact congrArg some e | exact congrArg some e.symm))⟩ (Or.inr hp)
set_option maxRecDepth 100000 in
set_option maxHeartbeats 1600000 in
theorem mjob_any (m N n : Nat) (w : World) (h : IsMk w m N) (hN : N ≤ 900000) (hn : n ≤ 1000) :
    Calls Try.prog 5 #[.pointer (some ⟨m, 0, none⟩), .int .i64 (n : Int)] w (JobPost m (N + 5 + 5 * n) n w) := by
  have hm := h.lt
  have K0 := Lib.hid (h.alloc (.cells #[.slice none 0 0, .int .i64 0] 25))
  have V0 := Lib.hid ((Moves.refl m w).alloc (.cells #[.slice none 0 0, .int .i64 0] 25))
  have J0 := Lib.hid (JBox.new (w := w) (A := none) (n := 0) (c := 0) (wt := 0) w.heap.size rfl)
  have F0 := Lib.hid (fun j => frozen_new w #[.slice none 0 0, .int .i64 0] 25 w.heap.size j rfl)
  have hsz : (w.alloc (.cells #[.slice none 0 0, .int .i64 0] 25)).heap.size = w.heap.size + 1 := by simp
  clear h
  go_enter Try.func5, Try.ntmps5
  go_upto_region 1 with fail
  obtain ⟨b, hb⟩ : ∃ b, b = w.heap.size := ⟨_, rfl⟩
  have HB := Lib.hid hb
  rw [← hb] at J0 F0 ⊢
  generalize w.alloc (.cells #[.slice none 0 0, .int .i64 0] 25) = w1 at *
  have HS := Lib.hid hsz
  have hbm : b ≠ m := by omega
  clear hb hsz
  go_wp2_with fail
  refine (mitems_any m N n w1 K0.out (by omega) hn).mono ?_
  rintro e w2 ⟨v, l, rfl, O, hl, hr, K2, V2⟩
  have V3 := Lib.hid (V0.out.trans V2)
  have J2 := Lib.hid (J0.out.moves V2 hbm)
  have F2 := Lib.hid (fun j => (V2.frozen (p := ⟨b, j, none⟩) J0.out.lt hbm).trans (F0.out j))
  have HK2 := Lib.hid K2
  have HR := Lib.hid hr
  obtain ⟨A, c, rfl, _⟩ := O.full
  have HO := Lib.hid O
  clear O hr K2 V2 J0 F0 K0 V0
  go_wp2_with fail
  refine (pick_any m (N + 4 + 5 * n) (fun v => 0 ≤ v ∧ v ≤ 12) _ 7 7 _ (HK2.out.alloc _) (by omega) (by omega) (by omega) (by have := HK2.out.lt; omega) (by simp) (by exact new_pick _ _ _ [0, 1, 2, 3, 12, 12, 12] (by decide) _ rfl)).mono ?_
  rintro e w3 ⟨wt, rfl, hwt, k3, v3⟩
  have J3 := Lib.hid ((J2.out.below ((Below.refl _ _).alloc (Nat.le_refl _) _) J2.out.lt).moves v3 hbm)
  have hF : ∀ j, w3.frozen? ⟨b, j, none⟩ = false := fun j => (v3.frozen (p := ⟨b, j, none⟩) (Nat.lt_of_lt_of_le J2.out.lt (by simp)) hbm).trans ((((Below.refl _ w2).alloc (Nat.le_refl _) _).frozen (p := ⟨b, j, none⟩) J2.out.lt).trans (F2.out j))
  have V4 := Lib.hid ((V3.out.alloc _).trans v3)
  have O4 := Lib.hid (((HO.out.alloc _).moves v3 (by have := HS.out; omega)).setOther (p := ⟨b, 0, none⟩) (fun e => by have := HO.out.block e; have := HS.out; have := HB.out; simp at *; omega) (.slice A l.length c))
  have O5 := Lib.hid (O4.out.setOther (p := ⟨b, 1, none⟩) (fun e => by have := HO.out.block e; have := HS.out; have := HB.out; simp at *; omega) (.int .i64 wt))
  have J5 := Lib.hid (J3.out.put (A' := A) (n' := l.length) (c' := c) (wt' := wt))
  have K5 := Lib.hid ((k3.setCell (p := ⟨b, 0, none⟩) (by have := HB.out; show m < b; omega) (.slice A l.length c)).setCell (p := ⟨b, 1, none⟩) (by have := HB.out; show m < b; omega) (.int .i64 wt))
  have V5 := Lib.hid ((V4.out.setCell (p := ⟨b, 0, none⟩) (Or.inr (by have := HB.out; show w.heap.size ≤ b; omega)) (.slice A l.length c)).setCell (p := ⟨b, 1, none⟩) (Or.inr (by have := HB.out; show w.heap.size ≤ b; omega)) (.int .i64 wt))
  obtain ⟨j0, j1, jl⟩ := J3.out
  have f0 := hF 0
  have f1 := hF 1
  clear k3 v3 V4 O4 hF J3
  go_wp2_with fail
  refine bodyPost_ret (results_job rfl _ _ b l.length c A wt rfl J5.out) rfl ?_
  exact ⟨A, c, l, wt, rfl, O5.out.base (by have := HS.out; omega), hl, HR.out, hwt, K5.out.more (by omega), V5.out⟩
end Go.Proofs.Ytpimdcljecipeaa
