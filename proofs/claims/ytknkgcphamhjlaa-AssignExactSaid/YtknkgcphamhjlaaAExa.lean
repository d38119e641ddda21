/-
  Stage 16: the law's comparison of the program with the reference.
-/
import Derived.Test.YtknkgcphamhjlaaARmt
import Derived.Test.YtknkgcphamhjlaaSame
set_option linter.unusedSimpArgs false
set_option linter.unusedVariables false
namespace Go.Proofs.Ytknkgcphamhjlaa
open Go.RowKit Go.Lib

theorem same_n (zs : List Int) (n : Nat) (hn : n = zs.length) (A B : Option Addr) (ca cb : Nat) (w : World) (ha : Row .i64 w w.heap.size A zs) (hb : Row .i64 w w.heap.size B zs) (hl : zs.length ≤ maxLen) :
    Calls Try.prog 27 #[.slice A n ca, .slice B n cb] w fun e w' => e = .returned (.bool true) ∧ ∃ q, w' = w.drewN q := by
  subst hn
  exact ints_same zs A B ca cb w ha hb hl
set_option maxRecDepth 100000 in
set_option maxHeartbeats 6400000 in
theorem exact_any (a b l r : List Int) (A Bb C D : Option Addr) (ca cb cl cr : Nat) (w : World) (ha : Row .i64 w w.heap.size A a) (hla : a.length ≤ maxLen) (hb : Row .i64 w w.heap.size Bb b) (hlb : b.length ≤ maxLen) (hl : Row .i64 w w.heap.size C l) (hll : l.length ≤ maxLen) (hr : Row .i64 w w.heap.size D r) (hlr : r.length ≤ maxLen) :
    Calls Try.prog 18 #[.slice A a.length ca, .slice Bb b.length cb, .slice C l.length cl, .slice D r.length cr] w fun e w' => e = .returned (.bool true) ∧ Below w.heap.size w w' := by
  have HMA := Lib.hid (match_any a b A Bb ca cb w ha hla hb hlb)
  have HRM := Lib.hid (fun W (k : Below w.heap.size w W) => rmatch_any a b A Bb ca cb W (ha.below k) hla (hb.below k) hlb)
  have HF := Lib.hid (fun W (k : Below w.heap.size w W) => fits_any a b l A Bb C ca cb cl W (ha.below k) hla (hb.below k) hlb (hl.below k) hll)
  have HRF := Lib.hid (fun W (k : Below w.heap.size w W) => rfits_any a b l A Bb C ca cb cl W (ha.below k) hla (hb.below k) hlb (hl.below k) hll)
  have HE := Lib.hid (fun W (k : Below w.heap.size w W) => refuses_any a b r A Bb D ca cb cr W (ha.below k) hla (hb.below k) hlb (hr.below k) hlr)
  have HRE := Lib.hid (fun W (k : Below w.heap.size w W) => rrefuses_any a b r A Bb D ca cb cr W (ha.below k) hla (hb.below k) hlb (hr.below k) hlr)
  obtain ⟨L, hL⟩ : ∃ n, n = a.length := ⟨_, rfl⟩
  obtain ⟨M, hM⟩ : ∃ n, n = b.length := ⟨_, rfl⟩
  obtain ⟨K1, hK1⟩ : ∃ n, n = l.length := ⟨_, rfl⟩
  obtain ⟨K2, hK2⟩ : ∃ n, n = r.length := ⟨_, rfl⟩
  obtain ⟨fb, hfb⟩ : ∃ z, z = fitR a b l := ⟨_, rfl⟩
  obtain ⟨rb, hrb⟩ : ∃ z, z = refR a b r := ⟨_, rfl⟩
  rw [← hL] at HMA HRM HF HRF HE HRE ⊢
  rw [← hM] at HMA HRM HF HRF HE HRE ⊢
  rw [← hK1] at HF HRF ⊢
  rw [← hK2] at HE HRE ⊢
  rw [← hfb] at HF HRF
  rw [← hrb] at HE HRE
  have hfbb : (fb == fb) = true := by simp
  have hrbb : (rb == rb) = true := by simp
  clear ha hla hb hlb hl hll hr hlr hL hM hK1 hK2 hfb hrb
  go_enter Try.func18, Try.ntmps18
  go_wp2_with fail
  refine HMA.out.mono ?_
  rintro e w1 ⟨os, v1, v2, l1, r1, er, rfl, O, MO, o1, o2, b1⟩
  have HO := Lib.hid O
  have HMO := Lib.hid MO
  have O1 := Lib.hid o1
  have O2 := Lib.hid o2
  have B1 := Lib.hid b1
  clear O MO o1 o2 b1 HMA
  go_wp2_with fail
  refine (HRM.out w1 B1.out).mono ?_
  rintro e w2 ⟨os', v3, v4, l2, r2, er2, rfl, O', MO', o3, o4, b2⟩
  obtain rfl := HO.out.uniq O'
  obtain ⟨rfl, rfl, rfl⟩ := HMO.out.uniq MO'
  obtain ⟨A1, c1, rfl, q1, -, m1, -⟩ := (O1.out.below b2).slice
  obtain ⟨A2, c2, rfl, q2, -, m2, -⟩ := (O2.out.below b2).slice
  obtain ⟨A3, c3, rfl, q3, -⟩ := o3.slice
  obtain ⟨A4, c4, rfl, q4, -⟩ := o4.slice
  have HI1 := Lib.hid (ints_same l1 A1 A3 c1 c3 w2 q1 q3 m1)
  have HI2 := Lib.hid (fun W (k : Below w2.heap.size w2 W) => ints_same r1 A2 A4 c2 c4 W (q2.below k) (q4.below k) m2)
  have B2 := Lib.hid (B1.out.trans (b2.mono B1.out.size))
  obtain ⟨Z1, hZ1⟩ : ∃ n, n = l1.length := ⟨_, rfl⟩
  obtain ⟨Z2, hZ2⟩ : ∃ n, n = r1.length := ⟨_, rfl⟩
  rw [← hZ1] at HI1 ⊢
  rw [← hZ2] at HI2 ⊢
  have hee : (er == er) = true := by simp
  clear HO HMO O' MO' O1 O2 o3 o4 q1 q2 q3 q4 m1 m2 b2 B1 hZ1 hZ2 HRM
  go_wp2_with fail
  refine HI1.out.mono ?_
  rintro e w3 ⟨rfl, q, hw⟩
  have b3 := Lib.hid (show Below w2.heap.size w2 w3 by rw [hw]; exact bdn (Below.refl _ _))
  have B3 := Lib.hid (B2.out.trans (b3.out.mono B2.out.size))
  clear hw HI1 B2
  go_wp2_with fail
  refine (HI2.out w3 b3.out).mono ?_
  rintro e w4 ⟨rfl, q, hw⟩
  have B4 := Lib.hid (show Below w.heap.size w w4 by rw [hw]; exact bdn B3.out)
  clear hw HI2 B3 b3
  go_wp2_with fail
  refine (HF.out w4 B4.out).mono ?_
  rintro e w5 ⟨rfl, b5⟩
  have B5 := Lib.hid (B4.out.trans (b5.mono B4.out.size))
  clear HF b5 B4
  go_wp2_with fail
  refine (HRF.out w5 B5.out).mono ?_
  rintro e w6 ⟨rfl, b6⟩
  have B6 := Lib.hid (B5.out.trans (b6.mono B5.out.size))
  clear HRF b6 B5
  go_wp2_with fail
  refine (HE.out w6 B6.out).mono ?_
  rintro e w7 ⟨rfl, b7⟩
  have B7 := Lib.hid (B6.out.trans (b7.mono B6.out.size))
  clear HE b7 B6
  go_wp2_with fail
  refine (HRE.out w7 B7.out).mono ?_
  rintro e w8 ⟨rfl, b8⟩
  have B8 := Lib.hid (B7.out.trans (b8.mono B7.out.size))
  clear HRE b8 B7
  go_wp2_with fail
  go_ret
  exact ⟨rfl, B8.out⟩
end Go.Proofs.Ytknkgcphamhjlaa
