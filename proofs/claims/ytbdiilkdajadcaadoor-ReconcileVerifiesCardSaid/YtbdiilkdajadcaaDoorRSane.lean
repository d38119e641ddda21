/-
  Stage 8: the laws' sanity check.
-/
import Derived.Test.YtbdiilkdajadcaaDoorRAli
import Derived.Test.YtbdiilkdajadcaaDoorSame
set_option linter.unusedSimpArgs false
set_option linter.unusedVariables false
namespace Go.Proofs.YtbdiilkdajadcaaDoor
open Go.RowKit

theorem row_atR {W : World} {T : TypeId} (ys : List Int) (n : Nat) (hn : n = W.heap.size) : Row .i64 (W.alloc (.cells (ys.map (Value.int .i64)).toArray T)) (W.alloc (.cells (ys.map (Value.int .i64)).toArray T)).heap.size (some ⟨n, 0, none⟩) ys := by
  subst hn
  exact fun j hj => ⟨_, rfl, by simp, by rw [add_own, cell_new]; simp [hj]⟩
theorem Row.alR {W : World} {A : Option Addr} {ys : List Int} (h : Row .i64 W W.heap.size A ys) (o : Obj) : Row .i64 (W.alloc o) (W.alloc o).heap.size A ys := h.below (box1W _ _)
theorem sane1 : aliR [1, 2, 3] [1, 3] = ([0, 2, 0], 4, 0) := by decide +kernel
theorem sane2 : aliR [1, 2] [2, 1] = ([4], 4, 0) := by decide +kernel
theorem ali_is {a b l : List Int} {c er : Int} (hr : aliR a b = (l, c, er)) (A B : Option Addr) (L M ca cb : Nat) (w : World) (hL : L = a.length) (hM : M = b.length) (hK : Knd w) (la : a.length ≤ 1000000000) (lb : b.length ≤ 1000000000) (ha : Row .i64 w w.heap.size A a) (hb : Row .i64 w w.heap.size B b) (hca : a.length ≤ ca) (hcb : b.length ≤ cb) :
    Calls Tryd.prog 9 #[.slice A L ca, .slice B M cb] w (AliPost l c er w) := by
  subst hL; subst hM
  have := ali_any a b A B ca cb w hK la lb ha hb hca hcb
  rwa [hr] at this
set_option maxHeartbeats 3200000 in
theorem sane_any (w : World) (hK : Knd w) : Calls Tryd.prog 11 #[] w fun e w' => e = .returned (.bool true) ∧ Below w.heap.size w w' := by
  have HK := Lib.hid hK
  clear hK
  go_enter Tryd.func11, Tryd.ntmps11
  go_wp2_with fail
  have B0 := Lib.hid ((box1W w (.cells #[.int .i64 1, .int .i64 2, .int .i64 3] 3)).alloc (box1W w (.cells #[.int .i64 1, .int .i64 2, .int .i64 3] 3)).size (.cells #[.int .i64 1, .int .i64 3] 3))
  have R0 := (row_atR (W := w) (T := 3) [1, 2, 3] w.heap.size rfl).alR (.cells #[.int .i64 1, .int .i64 3] 3)
  have R1 := row_atR (W := w.alloc (.cells #[.int .i64 1, .int .i64 2, .int .i64 3] 3)) (T := 3) [1, 3] (w.heap.size + 1) (by simp)
  refine (ali_is sane1 (some ⟨w.heap.size, 0, none⟩) _ 3 2 3 2 _ rfl rfl (HK.out.below' B0.out) (by decide) (by decide) R0 R1 (by decide) (by decide)).mono ?_
  rintro e w1 ⟨⟨v1, rfl, O1⟩, B1⟩
  have HB1 := Lib.hid (B0.out.trans (B1.mono B0.out.size))
  have HO1 := Lib.hid (show OwnI w1 w.heap.size v1 [0, 2, 0] from O1.base B0.out.size)
  have HK1 := Lib.hid (HK.out.below' HB1.out)
  clear O1 B1 R0 R1 B0 HK
  go_wp2_with fail
  have B0 := Lib.hid ((box1W w1 (.cells #[.int .i64 1, .int .i64 2] 3)).alloc (box1W w1 (.cells #[.int .i64 1, .int .i64 2] 3)).size (.cells #[.int .i64 2, .int .i64 1] 3))
  have R0 := (row_atR (W := w1) (T := 3) [1, 2] w1.heap.size rfl).alR (.cells #[.int .i64 2, .int .i64 1] 3)
  have R1 := row_atR (W := w1.alloc (.cells #[.int .i64 1, .int .i64 2] 3)) (T := 3) [2, 1] (w1.heap.size + 1) (by simp)
  refine (ali_is sane2 (some ⟨w1.heap.size, 0, none⟩) _ 2 2 2 2 _ rfl rfl (HK1.out.below' B0.out) (by decide) (by decide) R0 R1 (by decide) (by decide)).mono ?_
  rintro e w2 ⟨⟨v2, rfl, O2⟩, B2⟩
  have HB12 := Lib.hid (B0.out.trans (B2.mono B0.out.size))
  have HB2 := Lib.hid (HB1.out.trans (HB12.out.mono HB1.out.size))
  have HO2 := Lib.hid (show OwnI w2 w.heap.size v2 [4] from O2.base (Nat.le_trans HB1.out.size B0.out.size))
  have HO1' := Lib.hid (HO1.out.below HB12.out)
  clear O2 B2 R0 R1 B0 HK1 HO1 HB1 HB12
  obtain ⟨A1, c1, rfl, -⟩ := HO1'.out.slice
  obtain ⟨A2, c2, rfl, -⟩ := HO2.out.slice
  have e1 : ([0, 2, 0] : List Int).length = 3 := rfl
  have e2 : ([4] : List Int).length = 1 := rfl
  have RR1 := Lib.hid (show ∀ W, Below w2.heap.size w2 W → Row .i64 W W.heap.size A1 [0, 2, 0] from fun W hb => by
    obtain ⟨A, c, e, R, _⟩ := (HO1'.out.below hb).slice
    injection e with e _ _; subst e; exact R)
  have RR2 := Lib.hid (show ∀ W, Below w2.heap.size w2 W → Row .i64 W W.heap.size A2 [4] from fun W hb => by
    obtain ⟨A, c, e, R, _⟩ := (HO2.out.below hb).slice
    injection e with e _ _; subst e; exact R)
  rw [e1, e2]
  clear HO2 HO1' e1 e2
  have i1 := ints_same [0, 2, 0] A1 (some ⟨w2.heap.size, 0, none⟩) c1 3 (w2.alloc (.cells #[.int .i64 0, .int .i64 2, .int .i64 0] 3)) (RR1.out _ (box1W _ _)) (row_atR [0, 2, 0] _ rfl) (by decide)
  go_wp2_with fail
  refine i1.mono ?_
  rintro e w' ⟨rfl, n1, rfl⟩
  clear i1
  have HB4 := Lib.hid (show Below w2.heap.size w2 ((w2.alloc (.cells #[.int .i64 0, .int .i64 2, .int .i64 0] 3)).drewN n1) from bdn (box1W _ _))
  generalize (w2.alloc (.cells #[.int .i64 0, .int .i64 2, .int .i64 0] 3)).drewN n1 = w4 at HB4 ⊢
  have i2 := ints_same [4] A2 (some ⟨w4.heap.size, 0, none⟩) c2 1 (w4.alloc (.cells #[.int .i64 4] 3)) (RR2.out _ (HB4.out.alloc HB4.out.size _)) (row_atR [4] _ rfl) (by decide)
  go_wp2_with fail
  refine i2.mono ?_
  rintro e w' ⟨rfl, n2, rfl⟩
  go_wp2_with fail
  go_ret
  exact ⟨rfl, HB2.out.trans ((bdn (HB4.out.alloc HB4.out.size _)).mono HB2.out.size)⟩
end Go.Proofs.YtbdiilkdajadcaaDoor
