/-
  Stage 5: the walk of SectionAdds.
-/
import Derived.Test.YtbnlaopmmgoalaaSDistW
set_option linter.unusedSimpArgs false
set_option linter.unusedVariables false
namespace Go.Proofs.Ytbnlaopmmgoalaa
open Go.RowKit

theorem add_add (ad : Addr) (a b : Nat) : (ad.add a).add b = ad.add (a + b) := by
  unfold Addr.add
  by_cases h : a = 0
  · subst h; simp
  · by_cases g : b = 0
    · subst g; simp [h]
    · rw [if_neg h, if_neg (by omega)]
      simp [g, Nat.add_assoc]
/-- What is left behind the first k elements. -/
theorem PRow.drop {w : World} {A : Option Addr} {l : List Pul} (h : PRow w A l) (k : Nat) : PRow w (A.map (·.add (k * 3))) (l.drop k) := by
  refine ⟨fun j hj => ?_, by rw [List.length_drop]; have := h.len; omega⟩
  have hl := flatP_len l
  have hd := flatP_len (l.drop k)
  rw [List.length_drop] at hd
  obtain ⟨ad, rfl, hb, hc⟩ := h.row (k * 3 + j) (by omega)
  refine ⟨ad.add (k * 3), rfl, by rw [add_block]; exact hb, ?_⟩
  rw [add_add, hc]
  have e : (flatP l).drop (k * 3) = flatP (l.drop k) := by
    clear hd hl hc hj hb h
    induction l generalizing k with
    | nil => simp [flatP]
    | cons p l ih =>
      cases k with
      | zero => simp
      | succ k =>
        rw [show (k + 1) * 3 = k * 3 + 3 by omega, List.drop_succ_cons]
        show (p.1 :: p.2.1 :: p.2.2 :: flatP l).drop (k * 3 + 3) = flatP (l.drop k)
        rw [← ih k]
        simp
  rw [← e, List.getD_eq_getElem?_getD, List.getD_eq_getElem?_getD, List.getElem?_drop]
theorem elemPul : Try.prog.underlying 32 = some (.slice (Try.prog.elem 32)) := by kernel_rfl
theorem sizePul (w : World) : (sizeOf (Try.prog.elem 32)).run Try.prog w = .ok 3 w := by
  rw [show Try.prog.elem 32 = 40 by kernel_rfl]
  obtain ⟨i0, hi, hz0, hz1, hz2⟩ := info_parts infoPul
  simp [sizeOf, typeInfo, hi, hz1]
/-- The prefix of the pulses up to a time. -/
theorem late_zero {l : List Pul} {s r : Int} {p : List Pul} (h : ∀ x ∈ p, x.2.1 ≤ r) : sum (effT l s r) p = 0 := by
  induction p with
  | nil => rfl
  | cons x p ih =>
    show effT l s r x + sum _ p = 0
    rw [ih fun y hy => h y (List.mem_cons_of_mem _ hy)]
    unfold effT
    rw [if_neg (by have := h x (List.mem_cons_self ..); omega)]
    rfl
theorem later_all {l : List Pul} {s r : Int} {p : List Pul} (h : ∀ x ∈ p, r < x.2.1) (h0 : ∀ x ∈ p, -1 < x.2.1) : sum (effT l s r) p = sum (effT l s (-1)) p := by
  refine sum_congr fun x hx => ?_
  unfold effT
  rw [if_pos (h x hx), if_pos (h0 x hx)]
theorem run_ge {t : Int} {p : List Pul} (h : run t p) : ∀ x ∈ p, t ≤ x.2.1 := by
  induction p generalizing t with
  | nil => intro x hx; cases hx
  | cons y p ih =>
    intro x hx
    rcases List.mem_cons.1 hx with rfl | hx
    · exact h.2.1
    · exact Int.le_trans h.2.1 (ih h.2.2 x hx)
theorem run_behind {t : Int} {p q : List Pul} {y : Pul} (h : run t (p ++ y :: q)) : run y.2.1 q := by
  induction p generalizing t with
  | nil => exact h.2.2
  | cons x p ih => exact ih h.2.2
/-- All pulses from one on that is later than r are later than r. -/
theorem run_from {p : List Pul} (h : run 0 p) {k : Nat} {r : Int} (hk : k < p.length) (hr : r < (p.getD k (0, 0, 0)).2.1) : ∀ x ∈ p.drop k, r < x.2.1 := by
  intro x hx
  rw [drop_at hk] at hx
  rcases List.mem_cons.1 hx with rfl | hx
  · exact hr
  · have e := List.take_append_drop k p
    rw [drop_at hk] at e
    rw [← e] at h
    have := run_ge (run_behind h) x hx
    omega
theorem count_ok {l p : List Pul} {s r : Int} (h : chkR l p s = 0) : countR l p s r = (cntR l p s r, 0) := by
  unfold countR; rw [if_pos h]
theorem cnt_bd {l p : List Pul} {s r : Int} (hb : Bor l) (hx : ∀ x ∈ p, okP x) (hp : p.length ≤ 100) : -100 ≤ cntR l p s r ∧ cntR l p s r ≤ 100 := by
  have := sum_bd (f := effT l s r) (p := p) fun x h => effT_bd hb (hx x h) s r
  unfold cntR
  omega

set_option maxRecDepth 100000 in
set_option maxHeartbeats 1600000 in
theorem add_walk (t : Option Addr) (len cap : Nat) (zs : List Int) (at0 : Int) (w : World) (h : IsRow .i64 w t len cap zs) (ha : -9223372036854775808 ≤ at0 ∧ at0 ≤ 9223372036854775807) :
    Calls Try.prog 5 #[.slice t len cap, .int .i64 at0] w fun e w' => e = .returned (.bool true) ∧ Below w.heap.size w w' := by
  have K0 := Lib.hid (mk_new (T := 58) h)
  clear h
  go_enter Try.func5, Try.ntmps5
  go_wp2_with fail
  refine (new_any t len cap w).mono ?_
  rintro e w1 ⟨rfl, e1⟩
  have HB1 := Lib.hid (show Below w.heap.size w w1 by rw [e1]; exact (Below.refl _ _).alloc (Nat.le_refl _) _)
  have K1 := Lib.hid (show IsMk w1 w.heap.size 0 by rw [e1]; exact K0.out)
  clear e1 K0
  go_wp2_with fail
  refine (mborders_any w.heap.size 0 10 w1 K1.out (by decide) (by decide)).mono ?_
  rintro e w2 ⟨v2, l, rfl, O2, hl, hbor, K2, M2⟩
  have HB2 := Lib.hid (M2.below HB1.out (Nat.le_refl _) HB1.out.size)
  have HK2 := Lib.hid K2
  have HO2 := Lib.hid (show TOwn 24 w2 (w.heap.size + 1) v2 l from O2.base K1.out.lt)
  clear O2 K2 M2
  go_wp2_with fail
  refine (mpulses_any w.heap.size (0 + 1 + 3 * 10) 20 w2 HK2.out (by decide) (by decide)).mono ?_
  rintro e w3 ⟨v3, p, rfl, O3, hp, hrun, K3, M3⟩
  have HB3 := Lib.hid (M3.below HB2.out (Nat.le_refl _) HB2.out.size)
  have HK3 := Lib.hid K3
  have HO3 := Lib.hid (show TOwn 40 w3 (w.heap.size + 1) v3 p from O3.base (Nat.succ_le_of_lt HK2.out.lt))
  have HO2 := Lib.hid (HO2.out.moves M3 (by omega))
  clear O3 K3 M3
  go_wp2_with fail
  refine (next_any w.heap.size (0 + 1 + 3 * 10 + 2 + 3 * 20) 4 w3 HK3.out (by decide) (by decide) (by decide)).mono ?_
  rintro e w4 ⟨sv, rfl, s1, s2, K4, M4⟩
  have HB4 := Lib.hid (M4.below HB3.out (Nat.le_refl _) HB3.out.size)
  obtain ⟨A, c, rfl, R, _⟩ := (HO2.out.moves M4 (by omega)).full
  obtain ⟨A2, c2, rfl, R2, h1, h2, _⟩ := (HO3.out.moves M4 (by omega)).full
  obtain ⟨s, rfl⟩ := Int.eq_ofNat_of_zero_le s1
  have HR := Lib.hid R
  have HR2 := Lib.hid R2
  have HRU := Lib.hid hrun
  have HBO := Lib.hid hbor
  have HC := Lib.hid (show ∀ (q : List Pul), run 0 q → q.length ≤ 20 → chkR l q s = 0 from fun q h1 h2 => chk_ok hbor (by omega) h1 (by omega) (by omega) (by omega))
  have hll := R.len
  obtain ⟨L, hL⟩ : ∃ n, n = l.length := ⟨_, rfl⟩
  obtain ⟨P, hP⟩ : ∃ n, n = p.length := ⟨_, rfl⟩
  have HL := Lib.hid hL
  have HP := Lib.hid hP
  rw [← hL] at hl hll ⊢
  rw [← hP] at hp h1 ⊢
  have tb := tmod_bd at0 (P + 1) (by omega)
  have hp0 : ((P : Int) + 1 == 0) = false := beq_eq_false_iff_ne.2 (by omega)
  clear hL hP R R2 K4 M4 hrun hbor HO2 HO3 HK2 HK3 HB3 HB2 HB1 K1
  go_upto_region 4 with fail
  obtain ⟨x, hx⟩ : ∃ x : Nat, (at0.tmod ((P : Int) + 1) + (P : Int) + 1) % ((P : Int) + 1) = (x : Int) := ⟨_, (Int.toNat_of_nonneg (Int.emod_nonneg _ (by omega))).symm⟩
  have hxP : x ≤ P := by
    have := Int.emod_lt_of_pos (at0.tmod ((P : Int) + 1) + (P : Int) + 1) (show 0 < (P : Int) + 1 by omega)
    omega
  rw [hx]
  generalize at0.tmod ((P : Int) + 1) = y1
  generalize y1 + (P : Int) = y2
  generalize y2 + 1 = y3
  clear hx tb hp0 ha
  have HXP := Lib.hid hxP
  have ca := pcount_any l p A A2 c c2 s (-1) w4 HR.out HR2.out
  rw [count_ok (HC.out p HRU.out (by rw [← HP.out]; exact hp)), ← HL.out, ← HP.out] at ca
  have HCA := Lib.hid ca
  clear ca
  go_wp2_with fail
  refine HCA.out.mono ?_
  rintro e w5 ⟨rfl, B5⟩
  have HR := Lib.hid (HR.out.below B5)
  have HR2 := Lib.hid (HR2.out.below B5)
  have HB5 := Lib.hid (HB4.out.trans (B5.mono HB4.out.size))
  have hkl : (p.take x).length = x := by rw [List.length_take, ← HP.out]; omega
  have ca := pcount_any l (p.take x) A A2 c c2 s (-1) w5 HR.out (HR2.out.take x)
  rw [count_ok (HC.out _ (run_take HRU.out x) (by rw [hkl]; omega)), ← HL.out, hkl] at ca
  have HCA2 := Lib.hid ca
  have hkc : (x : Int) ≤ (c2 : Int) := by omega
  clear HCA ca B5 HB4 hkl
  go_wp2_with fail
  refine HCA2.out.mono ?_
  rintro e w6 ⟨rfl, B6⟩
  have HR := Lib.hid (HR.out.below B6)
  have HR2 := Lib.hid (HR2.out.below B6)
  have HB6 := Lib.hid (HB5.out.trans (B6.mono HB5.out.size))
  clear HCA2 B6 HB5
  obtain ⟨A3, c3, hsl, HR3⟩ : ∃ (A3 : Option Addr) (c3 : Nat), (∀ w, (Instr.slice 32 (.slice A2 P c2) (some (.int .i64 (x : Int))) none none).run Try.prog w = .ok (.slice A3 (P - x) c3) w) ∧ Hid (PRow w6 A3 (p.drop x)) := by
    by_cases hcx : c2 = x
    · refine ⟨A2, 0, fun w => ?_, Lib.hid ?_⟩
      · rw [run_slice_l (P := Try.prog) w _ _ _ _ elemPul .i64 (x : Int) (by omega) (by omega)]
        simp [sizePul, Result.andThen, sliced, hcx]
      · rw [List.drop_eq_nil_of_le (by rw [← HP.out]; omega)]; exact PRow.nil
    · refine ⟨A2.map (·.add (x * 3)), c2 - x, fun w => ?_, Lib.hid (HR2.out.drop x)⟩
      rw [run_slice_l (P := Try.prog) w _ _ _ _ elemPul .i64 (x : Int) (by omega) (by omega)]
      simp [sizePul, Result.andThen, sliced, hcx]
  have hkl : (p.drop x).length = P - x := by rw [List.length_drop, ← HP.out]
  have ca := pcount_any l (p.drop x) A A3 c c3 s (-1) w6 HR.out HR3.out
  rw [count_ok (HC.out _ (run_drop (p := p.take x) (Int.le_refl 0) (by rw [List.take_append_drop]; exact HRU.out)) (by rw [hkl]; omega)), ← HL.out, hkl] at ca
  have HCA := Lib.hid ca
  clear ca hkl
  go_wp2_with fail
  refine HCA.out.mono ?_
  rintro e w7 ⟨rfl, B7⟩
  have HR := Lib.hid (HR.out.below B7)
  have HR2 := Lib.hid (HR2.out.below B7)
  have HB7 := Lib.hid (HB6.out.trans (B7.mono HB6.out.size))
  have HX := Lib.hid (run_mem HRU.out)
  have b1 := cnt_bd (l := l) (s := s) (r := -1) HBO.out HX.out (by rw [← HP.out]; omega)
  have b2 := cnt_bd (l := l) (s := s) (r := -1) (p := p.take x) HBO.out (fun y hy => HX.out y (List.mem_of_mem_take hy)) (by rw [List.length_take]; omega)
  have b3 := cnt_bd (l := l) (s := s) (r := -1) (p := p.drop x) HBO.out (fun y hy => HX.out y (List.mem_of_mem_drop hy)) (by rw [List.length_drop, ← HP.out]; omega)
  have hsum : cntR l p s (-1) = cntR l (p.take x) s (-1) + cntR l (p.drop x) s (-1) := by
    unfold cntR
    rw [← sum_app, List.take_append_drop]
  have HCN := Lib.hid (show ∀ k, cntR l p s (-1) = cntR l (p.take k) s (-1) + cntR l (p.drop k) s (-1) from fun k => by
    unfold cntR
    rw [← sum_app, List.take_append_drop])
  obtain ⟨n1, hn1⟩ : ∃ n1, n1 = cntR l p s (-1) := ⟨_, rfl⟩
  obtain ⟨n2, hn2⟩ : ∃ n1, n1 = cntR l (p.take x) s (-1) := ⟨_, rfl⟩
  obtain ⟨n3, hn3⟩ : ∃ n1, n1 = cntR l (p.drop x) s (-1) := ⟨_, rfl⟩
  rw [← hn1, ← hn2, ← hn3] at hsum
  rw [← hn1] at b1 HCN ⊢
  rw [← hn2] at b2 ⊢
  rw [← hn3] at b3 ⊢
  have HN1 := Lib.hid hn1
  clear HCA B7 HB6 HR3 hn1 hn2 hn3
  have hne : (n1 != n2 + n3) = false := by rw [hsum]; simp
  have HB1 := Lib.hid b1
  clear hsum b1
  go_upto_region 9 with fail
  clear hne b2 b3 hsl hkc hxP HXP
  by_cases hP0 : P = 0
  · subst hP0
    go_wp2_with fail
    refine (sane_any w7).mono ?_
    rintro e w8 ⟨rfl, B8⟩
    have HB8 := Lib.hid (HB7.out.trans (B8.mono HB7.out.size))
    clear B8
    go_wp2_with fail
    go_ret
    exact ⟨rfl, HB8.out⟩
  · have hPb : ((P : Int) == 0) = false := beq_eq_false_iff_ne.2 (by omega)
    have HPB := Lib.hid hPb
    obtain ⟨m, hm⟩ : ∃ m : Nat, (P : Int) / 2 = (m : Int) := ⟨((P : Int) / 2).toNat, by omega⟩
    have hmP : m < P := by omega
    obtain ⟨ad, rfl, C⟩ := HR2.out.at_ m (by rw [← HP.out]; exact hmP)
    obtain ⟨⟨d0, r, z0⟩, hpm⟩ : ∃ x, x = p.getD m (0, 0, 0) := ⟨_, rfl⟩
    rw [← hpm] at C
    obtain ⟨c0, c1, c2⟩ := C.spelt
    simp only at c0 c1 c2
    have HPP := Lib.hid hP0
    clear C hpm hP0
    go_upto_region 12 with fail
    clear c0 c1 c2 hm hmP
    go_wp2_with fail
    go_loopw [16] (fun kv wr => ∃ k : Nat, k ≤ P ∧ kv = .int .i64 (k : Int) ∧ Hid (∀ x ∈ p.take k, x.2.1 ≤ r) ∧ wr = w7) (fun kv _ => P - (intOf kv).toNat)
    case atStart => exact ⟨0, by omega, rfl, Lib.hid (fun x hx => by cases hx), rfl⟩
    case round =>
      obtain ⟨k, hk, rfl, G, rfl⟩ := hrel
      by_cases hlt : k < P
      · obtain ⟨ad', e', C⟩ := HR2.out.at_ k (by rw [← HP.out]; exact hlt)
        obtain rfl : ad = ad' := by injection e'
        obtain ⟨⟨d, tt, z⟩, hpk⟩ : ∃ x, x = p.getD k (0, 0, 0) := ⟨_, rfl⟩
        have ht := take_at hpk (by rw [← HP.out]; exact hlt)
        have HPK := Lib.hid hpk
        rw [← hpk] at C
        obtain ⟨c0, c1, c2'⟩ := C.spelt
        simp only at c0 c1 c2'
        have HT := Lib.hid ht
        clear C hpk ht e'
        by_cases htr : tt ≤ r
        · have HTR := Lib.hid htr
          go_wp2_with fail
          go_roundw
          case rel =>
            refine ⟨k + 1, by omega, by go_num, Lib.hid (fun x hx => ?_), trivial⟩
            rw [HT.out] at hx
            rcases List.mem_append.1 hx with hx | hx
            · exact G.out x hx
            · rw [List.mem_singleton] at hx; subst hx; exact HTR.out
          case measure => simp [intOf]; omega
        · have HG2 := Lib.hid (run_from HRU.out (k := k) (r := r) (by rw [← HP.out]; exact hlt) (by rw [← HPK.out]; show r < tt; omega))
          have hkl : (p.take k).length = k := by rw [List.length_take, ← HP.out]; omega
          have hcr : cntR l p s r = cntR l (p.drop k) s (-1) := by
            unfold cntR
            have e := sum_app (effT l s r) (p.take k) (p.drop k)
            rw [List.take_append_drop] at e
            rw [e, late_zero G.out, later_all HG2.out (fun x hx => by have := (HX.out x (List.mem_of_mem_drop hx)).2.1; omega), Int.zero_add]
          have ca := pcount_any l (p.take k) A (some ad) c c2 s (-1) wr HR.out (HR2.out.take k)
          rw [count_ok (HC.out _ (run_take HRU.out k) (by rw [hkl]; omega)), ← HL.out, hkl] at ca
          have HCA := Lib.hid ca
          have cb := fun w h1 h2 => pcount_any l p A (some ad) c c2 s r w h1 h2
          rw [count_ok (HC.out p HRU.out (by rw [← HP.out]; exact hp)), ← HL.out, ← HP.out, hcr] at cb
          have HCB := Lib.hid cb
          have hs2 := HCN.out k
          have b2 := cnt_bd (l := l) (s := s) (r := -1) (p := p.take k) HBO.out (fun y hy => HX.out y (List.mem_of_mem_take hy)) (by rw [List.length_take]; omega)
          have b3 := cnt_bd (l := l) (s := s) (r := -1) (p := p.drop k) HBO.out (fun y hy => HX.out y (List.mem_of_mem_drop hy)) (by rw [List.length_drop, ← HP.out]; omega)
          obtain ⟨n4, hn4⟩ : ∃ n1, n1 = cntR l (p.take k) s (-1) := ⟨_, rfl⟩
          obtain ⟨n5, hn5⟩ : ∃ n1, n1 = cntR l (p.drop k) s (-1) := ⟨_, rfl⟩
          rw [← hn4] at HCA hs2 b2
          rw [← hn5] at HCB hs2 b3
          have heq : (n1 == n4 + n5) = true := by rw [hs2]; simp
          have hkc : (k : Int) ≤ (c2 : Int) := by omega
          clear hn4 hn5 hs2 ca cb hcr hkl
          go_wp2_with fail
          refine HCA.out.mono ?_
          rintro e w8 ⟨rfl, B8⟩
          have HR := Lib.hid (HR.out.below B8)
          have HR2 := Lib.hid (HR2.out.below B8)
          have HB8 := Lib.hid (HB7.out.trans (B8.mono HB7.out.size))
          clear HCA B8
          go_wp2_with fail
          refine (HCB.out w8 HR.out HR2.out).mono ?_
          rintro e w9 ⟨rfl, B9⟩
          have HB9 := Lib.hid (HB8.out.trans (B9.mono HB8.out.size))
          clear HCB B9
          go_wp2_with fail
          refine (sane_any w9).mono ?_
          rintro e w10 ⟨rfl, B10⟩
          have HB10 := Lib.hid (HB9.out.trans (B10.mono HB9.out.size))
          clear B10
          go_wp2_with fail
          go_ret
          exact ⟨rfl, HB10.out⟩
      · obtain rfl : k = P := by omega
        have HG2 := Lib.hid (show ∀ x ∈ p.drop k, r < x.2.1 from fun x hx => by rw [List.drop_eq_nil_of_le (by rw [← HP.out]; omega)] at hx; cases hx)
        have hkl : (p.take k).length = k := by rw [List.length_take, ← HP.out]; omega
        have hcr : cntR l p s r = cntR l (p.drop k) s (-1) := by
          unfold cntR
          have e := sum_app (effT l s r) (p.take k) (p.drop k)
          rw [List.take_append_drop] at e
          rw [e, late_zero G.out, later_all HG2.out (fun x hx => by have := (HX.out x (List.mem_of_mem_drop hx)).2.1; omega), Int.zero_add]
        have ca := pcount_any l (p.take k) A (some ad) c c2 s (-1) wr HR.out (HR2.out.take k)
        rw [count_ok (HC.out _ (run_take HRU.out k) (by rw [hkl]; omega)), ← HL.out, hkl] at ca
        have HCA := Lib.hid ca
        have cb := fun w h1 h2 => pcount_any l p A (some ad) c c2 s r w h1 h2
        rw [count_ok (HC.out p HRU.out (by rw [← HP.out]; exact hp)), ← HL.out, ← HP.out, hcr] at cb
        have HCB := Lib.hid cb
        have hs2 := HCN.out k
        have b2 := cnt_bd (l := l) (s := s) (r := -1) (p := p.take k) HBO.out (fun y hy => HX.out y (List.mem_of_mem_take hy)) (by rw [List.length_take]; omega)
        have b3 := cnt_bd (l := l) (s := s) (r := -1) (p := p.drop k) HBO.out (fun y hy => HX.out y (List.mem_of_mem_drop hy)) (by rw [List.length_drop, ← HP.out]; omega)
        obtain ⟨n4, hn4⟩ : ∃ n1, n1 = cntR l (p.take k) s (-1) := ⟨_, rfl⟩
        obtain ⟨n5, hn5⟩ : ∃ n1, n1 = cntR l (p.drop k) s (-1) := ⟨_, rfl⟩
        rw [← hn4] at HCA hs2 b2
        rw [← hn5] at HCB hs2 b3
        have heq : (n1 == n4 + n5) = true := by rw [hs2]; simp
        have hkc : (k : Int) ≤ (c2 : Int) := by omega
        clear hn4 hn5 hs2 ca cb hcr hkl
        go_wp2_with fail
        refine HCA.out.mono ?_
        rintro e w8 ⟨rfl, B8⟩
        have HR := Lib.hid (HR.out.below B8)
        have HR2 := Lib.hid (HR2.out.below B8)
        have HB8 := Lib.hid (HB7.out.trans (B8.mono HB7.out.size))
        clear HCA B8
        go_wp2_with fail
        refine (HCB.out w8 HR.out HR2.out).mono ?_
        rintro e w9 ⟨rfl, B9⟩
        have HB9 := Lib.hid (HB8.out.trans (B9.mono HB8.out.size))
        clear HCB B9
        go_wp2_with fail
        refine (sane_any w9).mono ?_
        rintro e w10 ⟨rfl, B10⟩
        have HB10 := Lib.hid (HB9.out.trans (B10.mono HB9.out.size))
        clear B10
        go_wp2_with fail
        go_ret
        exact ⟨rfl, HB10.out⟩
end Go.Proofs.Ytbnlaopmmgoalaa
