/-
  Stage 6: sane.
-/
import Derived.Test.YtjgeolfjhfdbmaaCDec
import Derived.Test.YtjgeolfjhfdbmaaCEnc
import Derived.Test.YtjgeolfjhfdbmaaSame
set_option linter.unusedSimpArgs false
set_option linter.unusedVariables false
namespace Go.Proofs.Ytjgeolfjhfdbmaa
open Go.RowKit

theorem row_new {k : IntKind} {W : World} {T : TypeId} (ys : List Int) : Row k (W.alloc (.cells (ys.map (Value.int k)).toArray T)) (W.alloc (.cells (ys.map (Value.int k)).toArray T)).heap.size (some ⟨W.heap.size, 0, none⟩) ys := fun j hj =>
  ⟨_, rfl, by simp, by rw [add_own, cell_new]; simp [hj]⟩
theorem BRow.new {W : World} {T : TypeId} (ys : List Int) (h : ys.length ≤ 1000000) (hb : BB ys) : BRow (W.alloc (.cells (ys.map (Value.int .u8)).toArray T)) (some ⟨W.heap.size, 0, none⟩) ys := ⟨row_new ys, by omega, hb⟩
theorem san1 : encR [] = ([0, 0, 0], 0) := by rfl
theorem san2 : decR [0, 0, 0, 0] = ([], 11) := by rfl
theorem san3 : decR [0, 0] = ([], 10) := by rfl
theorem san4 : chk [1, 2, 3] = 14 := by rfl
theorem dec_bad {bs : List Int} {x : Int} (h : decR bs = ([], x)) (A : Option Addr) (c : Nat) (w : World) (hB : BRow w A bs) (hc : bs.length ≤ c ∧ c ≤ maxLen) :
    Calls Try.prog 25 #[.slice A bs.length c] w fun e w' => (∃ v, e = .returned (.tuple #[v, .int .i64 x])) ∧ Below w.heap.size w w' := by
  refine (pdec_any A c bs w hB hc).mono ?_
  rintro e w' ⟨v, rfl, _, b⟩
  rw [h]
  exact ⟨⟨v, rfl⟩, b⟩
set_option maxHeartbeats 1600000 in
theorem sane_any (w : World) : Calls Try.prog 13 #[] w fun e w' => e = .returned (.bool true) ∧ Below w.heap.size w w' := by
  have b0 : BB [0, 0, 0, 0] := fun x hx => by simp at hx; omega
  have b1 : BB [0, 0] := fun x hx => by simp at hx; omega
  have b2 : BB [0, 0, 0] := fun x hx => by simp at hx; omega
  have b3 : BB [1, 2, 3] := fun x hx => by simp at hx; omega
  have H0 := Lib.hid b0
  have H1 := Lib.hid b1
  have H3 := Lib.hid b3
  have H2 := Lib.hid b2
  clear b0 b1 b2 b3
  go_enter Try.func13, Try.ntmps13
  go_wp2_with fail
  refine (penc_any [] none 0 w RRow.nil).mono ?_
  rintro e w1 ⟨v1, rfl, O1, B1⟩
  rw [san1] at O1 ⊢
  obtain ⟨A1, c1, rfl, R1, _⟩ := Own.slice O1
  have HB1 := Lib.hid B1
  have HO1 := Lib.hid O1
  clear O1 B1 R1
  go_wp2_with fail
  refine (dec_bad san2 _ 4 _ (BRow.new (W := w1) (T := 5) [0, 0, 0, 0] (by decide) H0.out) ⟨by decide, by decide⟩).mono ?_
  rintro e w2 ⟨⟨v2, rfl⟩, B2⟩
  have HB2 := Lib.hid (HB1.out.trans ((below1 B2).mono HB1.out.size))
  have HO2 := Lib.hid (HO1.out.below (below1 B2))
  clear B2 HO1 HB1
  go_wp2_with fail
  refine (dec_bad san3 _ 2 _ (BRow.new (W := w2) (T := 5) [0, 0] (by decide) H1.out) ⟨by decide, by decide⟩).mono ?_
  rintro e w3 ⟨⟨v3, rfl⟩, B3⟩
  have HB3 := Lib.hid (HB2.out.trans ((below1 B3).mono HB2.out.size))
  have HO3 := Lib.hid (HO2.out.below (below1 B3))
  clear B3 HO2 HB2
  go_wp2_with fail
  have R3 := Lib.hid (show Row .u8 (w3.alloc (.cells #[.int .u8 0, .int .u8 0, .int .u8 0] 5)) (w3.alloc (.cells #[.int .u8 0, .int .u8 0, .int .u8 0] 5)).heap.size A1 [0, 0, 0] from by
    obtain ⟨A', c', e, R, _⟩ := Own.slice (HO3.out.alloc (.cells #[.int .u8 0, .int .u8 0, .int .u8 0] 5))
    injection e with e
    rw [e]; exact R)
  refine (bytes_same [0, 0, 0] _ _ _ _ _ R3.out (row_new (W := w3) (T := 5) [0, 0, 0]) (by decide)).mono ?_
  rintro e w' ⟨rfl, n, rfl⟩
  have HB4 := Lib.hid (bdn (n := n) (HB3.out.alloc HB3.out.size (.cells #[.int .u8 0, .int .u8 0, .int .u8 0] 5)))
  generalize (w3.alloc (.cells #[.int .u8 0, .int .u8 0, .int .u8 0] 5)).drewN n = w4 at *
  go_wp2_with fail
  have hck := pchk_any [1, 2, 3] (some ⟨w4.heap.size, 0, none⟩) 3 _ (BRow.new (W := w4) (T := 5) [1, 2, 3] (by decide) H3.out)
  rw [san4] at hck
  refine hck.mono ?_
  rintro e w' ⟨rfl, rfl⟩
  clear hck
  go_wp2_with fail
  go_ret
  exact ⟨rfl, HB4.out.alloc HB4.out.size _⟩
end Go.Proofs.Ytjgeolfjhfdbmaa
