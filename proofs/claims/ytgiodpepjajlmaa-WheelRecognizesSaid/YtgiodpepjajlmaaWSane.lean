/-
  Stage 7: the laws' sanity check; lists of lists just laid.
-/
import Derived.Test.YtgiodpepjajlmaaWRec
import Derived.Test.YtgiodpepjajlmaaWOff
set_option linter.unusedSimpArgs false
set_option linter.unusedVariables false
namespace Go.Proofs.Ytgiodpepjajlmaa
open Go.RowKit

theorem row_laid {W : World} {T : TypeId} (ys : List Int) : Row .i64 (W.alloc (.cells (ys.map (Value.int .i64)).toArray T)) (W.alloc (.cells (ys.map (Value.int .i64)).toArray T)).heap.size (some ⟨W.heap.size, 0, none⟩) ys := fun j hj =>
  ⟨_, rfl, by simp, by rw [add_own, cell_new]; simp [hj]⟩
abbrev dsc (d : Option Addr × Nat × Nat) : Value := .slice d.1 d.2.1 d.2.2
/-- A list of lists that has just been laid. -/
theorem PP.laid {W : World} {T : TypeId} (ds : List (Option Addr × Nat × Nat)) (ps : List (List Int)) (h : ∀ (k : Nat) p, ps[k]? = some p → ∃ a c, ds[k]? = some (a, p.length, c) ∧ Row .i64 W W.heap.size a p ∧ p.length ≤ maxLen) :
    PP (W.alloc (.cells (ds.map dsc).toArray T)) (some ⟨W.heap.size, 0, none⟩) ps := fun k p hk => by
  obtain ⟨a, c, h1, h2, h3⟩ := h k p hk
  refine ⟨_, rfl, by simp, a, c, ?_, h2.below (box1W _ _), h3⟩
  rw [add_own, cell_new]
  simp [h1]
theorem row_at {W : World} {T : TypeId} (ys : List Int) (n : Nat) (hn : n = W.heap.size) : Row .i64 (W.alloc (.cells (ys.map (Value.int .i64)).toArray T)) (W.alloc (.cells (ys.map (Value.int .i64)).toArray T)).heap.size (some ⟨n, 0, none⟩) ys := by
  subst hn; exact row_laid ys
theorem pp_at {W : World} {T : TypeId} (n : Nat) (hn : n = W.heap.size) (ds : List (Option Addr × Nat × Nat)) (ps : List (List Int)) (h : ∀ (k : Nat) p, ps[k]? = some p → ∃ a c, ds[k]? = some (a, p.length, c) ∧ Row .i64 W W.heap.size a p ∧ p.length ≤ maxLen) :
    PP (W.alloc (.cells (ds.map dsc).toArray T)) (some ⟨n, 0, none⟩) ps := by
  subst hn; exact PP.laid ds ps h
theorem Row.al {W : World} {A : Option Addr} {ys : List Int} (h : Row .i64 W W.heap.size A ys) (o : Obj) : Row .i64 (W.alloc o) (W.alloc o).heap.size A ys := h.below (box1W _ _)
def exW : Wag := ⟨⟨#[51, 49, 56, 48, 50, 55, 55, 51, 49, 50, 51, 55]⟩, 100, 2, 100, 0, 0, false, ⟨#[97]⟩⟩
theorem exW_off : offR exW = ([250, 750], 0) := by decide +kernel
theorem exR1 : recR [180, 900, 180] [[180], [180, 900, 180]] 5 = ([0, 0], 0, 0) := by decide +kernel
theorem exR2 : recR [181] [[180]] 0 = ([], 0, 15) := by decide +kernel
theorem prec_is {d : List Int} {ps : List (List Int)} {tol : Int} {l : List Int} {n er : Int} (hr : recR d ps tol = (l, n, er)) (A A2 : Option Addr) (L c M c2 : Nat) (w : World) (hL : L = d.length) (hM : M = ps.length) (h : Row .i64 w w.heap.size A d) (hl : d.length ≤ maxLen) (hcap : d.length ≤ c) (h2 : PP w A2 ps) (hl2 : ps.length ≤ maxLen) :
    Calls Try.prog 10 #[.slice A L c, .slice A2 M c2, .int .i64 tol] w fun e w' => (∃ v, e = .returned (.tuple #[v, .int .i64 n, .int .i64 er]) ∧ Own .i64 3 w' w.heap.size v l) ∧ Below w.heap.size w w' := by
  subst hL; subst hM
  refine (prec_any d ps tol A A2 c c2 w h hl hcap h2 hl2).mono ?_
  rintro e w' ⟨v, rfl, O, B⟩
  rw [hr] at O ⊢
  exact ⟨⟨v, rfl, O⟩, B⟩
set_option maxHeartbeats 3200000 in
theorem sane_any (w : World) : Calls Try.prog 11 #[] w fun e w' => e = .returned (.bool true) ∧ Below w.heap.size w w' := by
  go_enter Try.func11, Try.ntmps11
  go_wp2_with fail
  refine (poff_any exW _).mono ?_
  rintro e w1 ⟨v1, rfl, O1, B1⟩
  rw [exW_off] at O1 ⊢
  have HB1 := Lib.hid B1
  have HO1 := Lib.hid (show OwnI w1 w.heap.size v1 [250, 750] from O1)
  clear O1 B1
  go_wp2_with fail
  have R0 := ((row_at (W := w1) (T := 3) [180, 900, 180] w1.heap.size rfl).al (.cells #[.int .i64 180] 3)).al (.cells #[.int .i64 180, .int .i64 900, .int .i64 180] 3)
  have R1 := (row_at (W := w1.alloc (.cells #[.int .i64 180, .int .i64 900, .int .i64 180] 3)) (T := 3) [180] (w1.heap.size + 1) (by simp)).al (.cells #[.int .i64 180, .int .i64 900, .int .i64 180] 3)
  have R2 := row_at (W := (w1.alloc (.cells #[.int .i64 180, .int .i64 900, .int .i64 180] 3)).alloc (.cells #[.int .i64 180] 3)) (T := 3) [180, 900, 180] (w1.heap.size + 1 + 1) (by simp)
  have P1 := pp_at (W := ((w1.alloc (.cells #[.int .i64 180, .int .i64 900, .int .i64 180] 3)).alloc (.cells #[.int .i64 180] 3)).alloc (.cells #[.int .i64 180, .int .i64 900, .int .i64 180] 3)) (T := 22) (w1.heap.size + 1 + 1 + 1) (by simp) [(some ⟨w1.heap.size + 1, 0, none⟩, 1, 1), (some ⟨w1.heap.size + 1 + 1, 0, none⟩, 3, 3)] [[180], [180, 900, 180]] (fun k p hk => by
    match k, hk with
    | 0, hk => injection hk with hk; subst hk; exact ⟨_, _, rfl, R1, by decide⟩
    | 1, hk => injection hk with hk; subst hk; exact ⟨_, _, rfl, R2, by decide⟩)
  refine (prec_is exR1 (some ⟨w1.heap.size, 0, none⟩) _ 3 3 2 2 _ rfl rfl (R0.al _) (by decide) (by decide) P1 (by decide)).mono ?_
  rintro e w2 ⟨⟨v2, rfl, O2⟩, B2⟩
  have HB2 := Lib.hid (HB1.out.trans (below3 (below1 B2) |>.mono HB1.out.size))
  have HO2 := Lib.hid (show OwnI w2 w.heap.size v2 [0, 0] from O2.base (by simp; have := HB1.out.size; omega))
  have HO1' := Lib.hid (HO1.out.below (below3 (below1 B2)))
  clear R0 R1 R2 P1 B2 O2 HB1 HO1
  go_wp2_with fail
  have R0 := (row_at (W := w2) (T := 3) [181] w2.heap.size rfl).al (.cells #[.int .i64 180] 3)
  have R1 := row_at (W := w2.alloc (.cells #[.int .i64 181] 3)) (T := 3) [180] (w2.heap.size + 1) (by simp)
  have P1 := pp_at (W := (w2.alloc (.cells #[.int .i64 181] 3)).alloc (.cells #[.int .i64 180] 3)) (T := 22) (w2.heap.size + 1 + 1) (by simp) [(some ⟨w2.heap.size + 1, 0, none⟩, 1, 1)] [[180]] (fun k p hk => by
    match k, hk with
    | 0, hk => injection hk with hk; subst hk; exact ⟨_, _, rfl, R1, by decide⟩)
  refine (prec_is exR2 (some ⟨w2.heap.size, 0, none⟩) _ 1 1 1 1 _ rfl rfl (R0.al _) (by decide) (by decide) P1 (by decide)).mono ?_
  rintro e w3 ⟨⟨v3, rfl, O3⟩, B3⟩
  have HB3 := Lib.hid (HB2.out.trans (below3 B3 |>.mono HB2.out.size))
  have HO3 := Lib.hid (HO2.out.below (below3 B3))
  have HO4 := Lib.hid (HO1'.out.below (below3 B3))
  clear R0 R1 P1 B3 O3 HB2 HO2 HO1'
  obtain ⟨A1, c1, rfl, -⟩ := HO4.out.slice
  obtain ⟨A2, c2, rfl, -⟩ := HO3.out.slice
  have e1 : ([250, 750] : List Int).length = 2 := rfl
  have e2 : ([0, 0] : List Int).length = 2 := rfl
  have RR1 := Lib.hid (show ∀ W, Below w3.heap.size w3 W → Row .i64 W W.heap.size A1 [250, 750] from fun W hb => by
    obtain ⟨A, c, e, R, _⟩ := (HO4.out.below hb).slice
    injection e with e _ _; subst e; exact R)
  have RR2 := Lib.hid (show ∀ W, Below w3.heap.size w3 W → Row .i64 W W.heap.size A2 [0, 0] from fun W hb => by
    obtain ⟨A, c, e, R, _⟩ := (HO3.out.below hb).slice
    injection e with e _ _; subst e; exact R)
  rw [e1, e2]
  clear HO3 HO4 e1 e2
  have i1 := ints_same [250, 750] A1 (some ⟨w3.heap.size, 0, none⟩) c1 2 (w3.alloc (.cells #[.int .i64 250, .int .i64 750] 3)) (RR1.out _ (box1W _ _)) (row_laid [250, 750]) (by decide)
  go_wp2_with fail
  refine i1.mono ?_
  rintro e w' ⟨rfl, n1, rfl⟩
  clear i1
  have HB4 := Lib.hid (show Below w3.heap.size w3 ((w3.alloc (.cells #[.int .i64 250, .int .i64 750] 3)).drewN n1) from bdn (box1W _ _))
  generalize (w3.alloc (.cells #[.int .i64 250, .int .i64 750] 3)).drewN n1 = w4 at HB4 ⊢
  have i2 := ints_same [0, 0] A2 (some ⟨w4.heap.size, 0, none⟩) c2 2 (w4.alloc (.cells #[.int .i64 0, .int .i64 0] 3)) (RR2.out _ (HB4.out.alloc HB4.out.size _)) (row_laid [0, 0]) (by decide)
  go_wp2_with fail
  refine i2.mono ?_
  rintro e w' ⟨rfl, n2, rfl⟩
  go_wp2_with fail
  go_ret
  exact ⟨rfl, HB3.out.trans ((bdn (HB4.out.alloc HB4.out.size _)).mono HB3.out.size)⟩
end Go.Proofs.Ytgiodpepjajlmaa
