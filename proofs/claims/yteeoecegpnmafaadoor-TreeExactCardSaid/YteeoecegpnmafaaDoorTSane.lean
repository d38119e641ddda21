/-
  Stage 10: the law's sanity check; two lists of pairs that read alike are the same.
-/
import Derived.Test.YteeoecegpnmafaaDoorTFn5
import Derived.Test.YteeoecegpnmafaaDoorTFn3
import Derived.Test.YteeoecegpnmafaaDoorSame
import Derived.BigQuiet
import Derived.Laws.StructEq
set_option linter.unusedSimpArgs false
set_option linter.unusedVariables false
namespace Go.Proofs.YteeoecegpnmafaaDoor
open Go.RowKit Go.Lib

theorem eqQ (a b c d : Int) (w : World) : (Op.equalIn 10000 46 (.agg #[.int .i64 a, .int .i64 b]) (.agg #[.int .i64 c, .int .i64 d])).run Tryd.prog w = .ok (a == c && b == d) w := by
  have u3 := Tryd.underlying3
  have a3 := Tryd.isAgg3
  have z3 := Tryd.sizeOf3
  rw [show (10000 : Nat) = 9999 + 1 from rfl, Op.equalIn]
  simp only [Sem.run_bind, run_underlying Tryd.underlying46, Result.andThen_ok]
  simp only [Std.Legacy.Range.forIn_eq_forIn_range', Std.Legacy.Range.size, Nat.sub_zero, Nat.add_sub_cancel, Nat.div_one, List.range'_succ, List.range'_zero, List.forIn_cons, List.forIn_nil]
  go_simp
  by_cases h1 : a = c <;> by_cases h2 : b = d <;> simp [h1, h2]
set_option maxHeartbeats 1600000 in
theorem pairs_same (l : List (Int × Int)) (A A' : Option Addr) (c c' : Nat) (w : World) (h : RRow QR w A l) (h' : RRow QR w A' l) :
    Calls Tryd.prog 29 #[.slice A l.length c, .slice A' l.length c'] w fun e w' => e = .returned (.bool true) ∧ ∃ n, w' = w.drewN n := by
  have hl : l.length ≤ maxLen := h.len
  unfold maxLen at hl
  obtain ⟨L, hL⟩ : ∃ n, n = l.length := ⟨_, rfl⟩
  have H := Lib.hid h
  have H' := Lib.hid h'
  have HL := Lib.hid hL
  rw [← hL] at hl ⊢
  clear h h' hL
  go_enter Tryd.func29, Tryd.ntmps29
  go_wp2_with fail
  go_loopw [5] (fun i wr => (∃ n, wr = w.drewN n) ∧ ∃ k : Nat, k ≤ L ∧ i = .int .i64 k) (fun i _ => L - (intOf i).toNat)
  case atStart => exact ⟨⟨0, rfl⟩, 0, by omega, rfl⟩
  case round =>
    obtain ⟨⟨n, hw⟩, k, hk, rfl⟩ := hrel
    have HW := Lib.hid (show ∃ n, wr = w.drewN n from ⟨n, hw⟩)
    by_cases hlt : k < L
    · obtain ⟨x, hx⟩ : ∃ x, l[k]? = some x := ⟨_, List.getElem?_eq_getElem (by rw [← HL.out]; exact hlt)⟩
      obtain ⟨a, rfl, C⟩ := H.out.at_ hx
      obtain ⟨a', rfl, C'⟩ := H'.out.at_ hx
      have c0 := (C.drewN n).first (R := QR) rfl
      have c1 := (C.drewN n).next (R := QR) 1 (by decide) rfl
      have d0 := (C'.drewN n).first (R := QR) rfl
      have d1 := (C'.drewN n).next (R := QR) 1 (by decide) rfl
      rw [← hw] at c0 c1 d0 d1
      obtain ⟨x, y⟩ := x
      simp only at c0 c1 d0 d1
      rw [show QR.m = 2 from rfl] at c0 c1 d0 d1
      clear hw C C' hx
      go_upto_region 6 with fail
      have heq : ∀ W, (Op.equalIn 10000 46 (.agg #[.int .i64 x, .int .i64 y]) (.agg #[.int .i64 x, .int .i64 y])).run Tryd.prog W = .ok true W := fun W => by rw [eqQ]; simp
      go_region
      clear c0 c1 d0 d1
      go_wp2_with fail
      go_roundw
      case rel => exact ⟨by obtain ⟨n, rfl⟩ := HW.out; exact ⟨n + 1, rfl⟩, k + 1, by omega, by go_num⟩
      case measure => simp [intOf]; omega
    · clear hw
      go_wp2_with fail
      go_ret
      exact ⟨rfl, HW.out⟩
def exL : List El := [⟨0, ⟨#[99]⟩, -1, 0, 0, 0, 0, 0⟩, ⟨3, ⟨#[119]⟩, 0, 0, 9000, 0, 0, 0⟩, ⟨4, ⟨#[97]⟩, 1, 1, 5, 0, 0, 0⟩, ⟨4, ⟨#[98]⟩, 1, 2, 5, 0, 0, 0⟩]
theorem example_any (w : World) : Calls Tryd.prog 30 #[] w fun e w' => e = .returned (.slice (some ⟨w.heap.size, 0, none⟩) 4 4) ∧ w' = w.alloc (.cells (ER.flat exL).toArray 37) := by
  go_enter Tryd.func30, Tryd.ntmps30
  go_wp2
  go_ret
  exact ⟨rfl, rfl⟩
theorem ROwn.lrow {w : World} {base : Nat} {v : Value} {l : List El} (h : ROwn ER 37 w base v l) (D : Dor w) (hz : SzE l) : ∃ A c, v = .slice A l.length c ∧ LRow w A c l := by
  obtain ⟨A, c, e, R, h1, h2, h3, h4⟩ := h.full
  refine ⟨A, c, e, R, ?_, h1, D, hz⟩
  intro ad e2
  rcases Nat.eq_zero_or_pos l.length with g | g
  · rcases h.2 with ⟨rfl, _⟩ | ⟨g', cap, cur, rfl, _⟩
    · injection e with e1; rw [e2] at e1; cases e1
    · injection e with e1; rw [e2] at e1; injection e1 with e1; rw [← e1]
  · obtain ⟨b, e3, _⟩ := h3 g
    rw [e2] at e3; injection e3 with e3; rw [e3]
theorem ex_chk : chkZ exL [3] = 0 ∧ chkZ exL [2, 3] = 0 ∧ chkZ exL [1] = 0 := by decide +kernel
theorem ex_way : pairE (chkZ exL [3]) (wayZ exL 3) = [0, 1, 3] := by decide +kernel
theorem ex_com : commE (chkZ exL [2, 3]) (comZ exL 2 3) = 1 := by decide +kernel
theorem ex_set : pairQ (chkZ exL [3]) (setZ exL 3) = [(1, 2)] := by decide +kernel
theorem ex_by : pairE (chkZ exL [1]) (byZ exL 1) = [2, 3] := by decide +kernel
theorem ex_sz : SzE exL := by
  intro x hx
  have h : ∀ x ∈ exL, x.name.size ≤ 1 := by decide +kernel
  exact Nat.le_trans (h x hx) (by decide)
def BoolPost (v : Bool) (w : World) (e : Ending) (w' : World) : Prop := e = .returned (.bool v) ∧ Below w.heap.size w w'
set_option maxHeartbeats 3200000 in
theorem sane_any (w : World) (D : Dor w) : Calls Tryd.prog 13 #[] w (BoolPost true w) := by
  have HR := Lib.hid (show LRow (w.alloc (.cells (ER.flat exL).toArray 37)) (some ⟨w.heap.size, 0, none⟩) 4 exL from by
    obtain ⟨A, c, e, R⟩ := (ROwn.lit (R := ER) (T := 37) (w := w) (base := w.heap.size) exL (by decide) (Nat.le_refl _) w.heap.size rfl).lrow (D.alloc _) ex_sz
    injection e with e1 e2 e3
    subst e1
    subst e3
    exact R)
  have HB := Lib.hid (show Below w.heap.size w (w.alloc (.cells (ER.flat exL).toArray 37)) from (Below.refl _ _).alloc (Nat.le_refl _) _)
  obtain ⟨a, ha⟩ : ∃ a, a = w.heap.size := ⟨_, rfl⟩
  have HE := Lib.hid (example_any w)
  rw [← ha] at HR HE
  clear D ha
  go_enter Tryd.func13, Tryd.ntmps13
  go_wp2_with fail
  refine HE.out.mono ?_
  generalize w.alloc (.cells (ER.flat exL).toArray 37) = w0 at HR HB ⊢
  rintro e w1 ⟨rfl, rfl⟩
  clear HE
  go_wp2_with fail
  have h1 := path_any exL (some ⟨a, 0, none⟩) 4 3 w1 HR.out
  rw [ex_way, ex_chk.1] at h1
  refine h1.mono ?_
  clear h1
  rintro e w2 ⟨v, rfl, O, B⟩
  obtain ⟨A1, c1, e1, _⟩ := O.slice
  have O1 := Lib.hid O
  have B1 := Lib.hid B
  replace e1 : v = .slice A1 3 c1 := e1
  subst e1
  have R2 := Lib.hid (HR.out.below B)
  have BB2 := Lib.hid (HB.out.trans (B.mono HB.out.size))
  clear O B
  go_wp2_with fail
  have h1 := common_any exL (some ⟨a, 0, none⟩) 4 2 3 w2 R2.out
  rw [ex_com, ex_chk.2.1] at h1
  refine h1.mono ?_
  clear h1
  rintro e w3 ⟨rfl, B⟩
  have R3 := Lib.hid (R2.out.below B)
  have O3 := Lib.hid (O1.out.below B)
  have BB3 := Lib.hid (BB2.out.trans (B.mono BB2.out.size))
  clear B R2 O1 BB2 B1
  go_wp2_with fail
  have h1 := settings_any exL (some ⟨a, 0, none⟩) 4 3 w3 R3.out
  rw [ex_set, ex_chk.1] at h1
  refine h1.mono ?_
  clear h1
  rintro e w4 ⟨v, rfl, O, B⟩
  obtain ⟨A2, c2, e1, _⟩ := O.slice
  replace e1 : v = .slice A2 1 c2 := e1
  subst e1
  have Q4 := Lib.hid O
  have R4 := Lib.hid (R3.out.below B)
  have O4 := Lib.hid (O3.out.below B)
  have BB4 := Lib.hid (BB3.out.trans (B.mono BB3.out.size))
  clear O B R3 O3 BB3
  go_wp2_with fail
  have h1 := beyond_any exL (some ⟨a, 0, none⟩) 4 1 w4 R4.out
  rw [ex_by, ex_chk.2.2] at h1
  refine h1.mono ?_
  clear h1
  rintro e w5 ⟨v, rfl, O, B⟩
  obtain ⟨A3, c3, e1, _⟩ := O.slice
  replace e1 : v = .slice A3 2 c3 := e1
  subst e1
  have P5 := Lib.hid O
  have Q5 := Lib.hid (Q4.out.below B)
  have O5 := Lib.hid (O4.out.below B)
  have BB5 := Lib.hid (BB4.out.trans (B.mono BB4.out.size))
  clear O B R4 O4 Q4 BB4
  go_wp2_with fail
  have N1 := Lib.hid (Own.laid (k := .i64) (T := 3) w5 w5.heap.size (Nat.le_refl _) [0, 1, 3] 3 rfl (by decide))
  obtain ⟨_, _, eN, RN, _⟩ := N1.out.slice
  injection eN with eN1 eN2 eN3
  subst eN1
  obtain ⟨_, _, eO, RO, _⟩ := (O5.out.alloc (.cells #[.int .i64 0, .int .i64 1, .int .i64 3] 3)).slice
  injection eO with eO1 eO2 eO3
  subst eO1
  refine (ints_same [0, 1, 3] A1 (some ⟨w5.heap.size, 0, none⟩) c1 3 _ RO RN (by decide)).mono ?_
  rintro e _ ⟨rfl, n1, rfl⟩
  clear RN RO N1 eN2 eN3 eO2 eO3
  have B6 := Lib.hid (bdn (n := n1) ((Below.refl w5.heap.size w5).alloc (Nat.le_refl _) (.cells #[.int .i64 0, .int .i64 1, .int .i64 3] 3)))
  generalize (w5.alloc (.cells #[.int .i64 0, .int .i64 1, .int .i64 3] 3)).drewN n1 = w6 at B6 ⊢
  have Q6 := Lib.hid (Q5.out.below B6.out)
  have P6 := Lib.hid (P5.out.below B6.out)
  have BB6 := Lib.hid (BB5.out.trans (B6.out.mono BB5.out.size))
  clear Q5 P5 BB5 O5 B6
  go_wp2_with fail
  obtain ⟨_, _, eO, RO⟩ := (Q6.out.alloc (.cells #[.int .i64 1, .int .i64 2] 46)).slice
  injection eO with eO1 eO2 eO3
  subst eO1
  obtain ⟨_, _, eN, RN⟩ := (ROwn.lit (R := QR) (T := 46) (w := w6) (base := w6.heap.size) [(1, 2)] (by decide) (Nat.le_refl _) w6.heap.size rfl).slice
  injection eN with eN1 eN2 eN3
  subst eN1
  refine (pairs_same [(1, 2)] A2 (some ⟨w6.heap.size, 0, none⟩) c2 1 _ RO RN).mono ?_
  rintro e _ ⟨rfl, n1, rfl⟩
  clear RN RO eN2 eN3 eO2 eO3
  have B7 := Lib.hid (bdn (n := n1) ((Below.refl w6.heap.size w6).alloc (Nat.le_refl _) (.cells #[.int .i64 1, .int .i64 2] 46)))
  generalize (w6.alloc (.cells #[.int .i64 1, .int .i64 2] 46)).drewN n1 = w7 at B7 ⊢
  have P7 := Lib.hid (P6.out.below B7.out)
  have BB7 := Lib.hid (BB6.out.trans (B7.out.mono BB6.out.size))
  clear Q6 P6 BB6 B7
  go_wp2_with fail
  obtain ⟨_, _, eO, RO, _⟩ := (P7.out.alloc (.cells #[.int .i64 2, .int .i64 3] 3)).slice
  injection eO with eO1 eO2 eO3
  subst eO1
  obtain ⟨_, _, eN, RN, _⟩ := (Own.laid (k := .i64) (T := 3) w7 w7.heap.size (Nat.le_refl _) [2, 3] 2 rfl (by decide)).slice
  injection eN with eN1 eN2 eN3
  subst eN1
  refine (ints_same [2, 3] A3 (some ⟨w7.heap.size, 0, none⟩) c3 2 _ RO RN (by decide)).mono ?_
  rintro e _ ⟨rfl, n1, rfl⟩
  have BB8 := Lib.hid (bdn (n := n1) (BB7.out.alloc BB7.out.size (.cells #[.int .i64 2, .int .i64 3] 3)))
  clear RN RO eN2 eN3 eO2 eO3 P7
  go_wp2_with fail
  go_ret
  exact ⟨rfl, BB8.out⟩
end Go.Proofs.YteeoecegpnmafaaDoor
