/-
  Stage 16: the reference's valid, Fits and Refuses.
-/
import Derived.Test.YtknkgcphamhjlaaAFit
set_option linter.unusedSimpArgs false
set_option linter.unusedVariables false
namespace Go.Proofs.Ytknkgcphamhjlaa
open Go.RowKit Go.Lib

set_option maxRecDepth 100000 in
set_option maxHeartbeats 1600000 in
theorem rvalid_any (a b : List Int) (A B : Option Addr) (ca cb : Nat) (w : World) (ha : Row .i64 w w.heap.size A a) (hla : a.length ≤ maxLen) (hb : Row .i64 w w.heap.size B b) (hlb : b.length ≤ maxLen) :
    Calls Try.prog 30 #[.slice A a.length ca, .slice B b.length cb] w fun e w' => e = .returned (.int .i64 (valR a b)) ∧ w = w' := by
  have H := Lib.hid ha
  have H2 := Lib.hid hb
  unfold maxLen at hla hlb
  obtain ⟨L, hL⟩ : ∃ n, n = a.length := ⟨_, rfl⟩
  have HL := Lib.hid hL
  obtain ⟨M, hM⟩ : ∃ n, n = b.length := ⟨_, rfl⟩
  have HM := Lib.hid hM
  rw [← hL] at hla ⊢
  rw [← hM] at hlb ⊢
  clear ha hb hL hM
  by_cases t1 : 32 < L
  · have HF := Lib.hid (valR_big (a := a) (b := b) (Or.inl (by rw [← HL.out]; exact t1)))
    have g1 : (32 : Int) < (L : Int) := by omega
    go_enter Try.func30, Try.ntmps30
    go_wp2_with fail
    go_ret
    exact ⟨ret_int HF.out.symm, rfl⟩
  have g1 : ¬ (32 : Int) < (L : Int) := by omega
  by_cases t2 : 32 < M
  · have HF := Lib.hid (valR_big (a := a) (b := b) (Or.inr (by rw [← HM.out]; exact t2)))
    have g2 : (32 : Int) < (M : Int) := by omega
    go_enter Try.func30, Try.ntmps30
    go_wp2_with fail
    go_ret
    exact ⟨ret_int HF.out.symm, rfl⟩
  have g2 : ¬ (32 : Int) < (M : Int) := by omega
  have HN := Lib.hid (show ¬ (32 < a.length ∨ 32 < b.length) by have := HL.out; have := HM.out; omega)
  go_enter Try.func30, Try.ntmps30
  go_wp2_with fail
  go_loop [5] (fun i => ∃ k : Nat, k ≤ L ∧ i = .int .i64 k ∧ Hid (okF 0 (a.take k) = true)) (fun i => L - (intOf i).toNat)
  case atStart => exact ⟨0, by omega, rfl, Lib.hid rfl⟩
  case round =>
    obtain ⟨k, hk, rfl, G⟩ := hrel
    by_cases hlt : k < L
    · obtain ⟨ad, rfl, -, c1⟩ := H.out k (by rw [← HL.out]; exact hlt)
      have hs := okF_snoc 0 a k (by rw [← HL.out]; exact hlt)
      obtain ⟨x, hx⟩ : ∃ x, x = a.getD k 0 := ⟨_, rfl⟩
      unfold ld at hs
      rw [← hx] at c1 hs
      have HS := Lib.hid hs
      have hltz : (k : Int) < (L : Int) := by omega
      clear hx hs
      by_cases t1 : x < 0
      · have HF := Lib.hid (show valR a b = 2 from valR_no HN.out (Or.inl (okF_part (k := k + 1) (by rw [HS.out, decide_eq_false (by omega), Bool.and_false]))))
        go_wp2_with fail
        go_ret
        exact ⟨ret_int HF.out.symm, rfl⟩
      by_cases t2 : 38400 < x
      · have HF := Lib.hid (show valR a b = 2 from valR_no HN.out (Or.inl (okF_part (k := k + 1) (by rw [HS.out, decide_eq_false (by omega), Bool.and_false]))))
        go_wp2_with fail
        go_ret
        exact ⟨ret_int HF.out.symm, rfl⟩
      · have HF := Lib.hid (show okF 0 (a.take (k + 1)) = true by rw [HS.out, G.out, decide_eq_true (by omega)]; rfl)
        go_wp2_with fail
        go_round
        case rel => exact ⟨k + 1, by omega, by go_num, HF⟩
        case measure => simp [intOf] <;> omega
    · obtain rfl : k = L := by omega
      have HF := Lib.hid (show okF 0 a = true by have := G.out; rwa [HL.out, List.take_length] at this)
      have hltz : ¬ (k : Int) < (k : Int) := by omega
      go_wp2_with fail
      go_loop [6] (fun i => ∃ j : Nat, j ≤ M ∧ i = .int .i64 j ∧ Hid (okF 1 (b.take j) = true)) (fun i => M - (intOf i).toNat)
      case atStart => exact ⟨0, by omega, rfl, Lib.hid rfl⟩
      case round =>
        obtain ⟨j, hj, rfl, G2⟩ := hrel
        by_cases hlt2 : j < M
        · obtain ⟨ad, rfl, -, c1⟩ := H2.out j (by rw [← HM.out]; exact hlt2)
          have hs := okF_snoc 1 b j (by rw [← HM.out]; exact hlt2)
          obtain ⟨x, hx⟩ : ∃ x, x = b.getD j 0 := ⟨_, rfl⟩
          unfold ld at hs
          rw [← hx] at c1 hs
          have HS := Lib.hid hs
          have hltz : (j : Int) < (M : Int) := by omega
          clear hx hs
          by_cases t1 : x < 1
          · have HF := Lib.hid (show valR a b = 2 from valR_no HN.out (Or.inr (okF_part (k := j + 1) (by rw [HS.out, decide_eq_false (by omega), Bool.and_false]))))
            go_wp2_with fail
            go_ret
            exact ⟨ret_int HF.out.symm, rfl⟩
          by_cases t2 : 38400 < x
          · have HF := Lib.hid (show valR a b = 2 from valR_no HN.out (Or.inr (okF_part (k := j + 1) (by rw [HS.out, decide_eq_false (by omega), Bool.and_false]))))
            go_wp2_with fail
            go_ret
            exact ⟨ret_int HF.out.symm, rfl⟩
          · have HF := Lib.hid (show okF 1 (b.take (j + 1)) = true by rw [HS.out, G2.out, decide_eq_true (by omega)]; rfl)
            go_wp2_with fail
            go_round
            case rel => exact ⟨j + 1, by omega, by go_num, HF⟩
            case measure => simp [intOf] <;> omega
        · obtain rfl : j = M := by omega
          have HF2 := Lib.hid (show okF 1 b = true by have := G2.out; rwa [HM.out, List.take_length] at this)
          have HF3 := Lib.hid (valR_yes HN.out HF.out HF2.out)
          have hltz : ¬ (j : Int) < (j : Int) := by omega
          go_wp2_with fail
          go_ret
          exact ⟨ret_int HF3.out.symm, rfl⟩
set_option maxRecDepth 100000 in
set_option maxHeartbeats 6400000 in
theorem rfits_any (a b l : List Int) (A Bb C : Option Addr) (ca cb cl : Nat) (w : World) (ha : Row .i64 w w.heap.size A a) (hla : a.length ≤ maxLen) (hb : Row .i64 w w.heap.size Bb b) (hlb : b.length ≤ maxLen) (hl : Row .i64 w w.heap.size C l) (hll : l.length ≤ maxLen) :
    Calls Try.prog 31 #[.slice A a.length ca, .slice Bb b.length cb, .slice C l.length cl] w fun e w' => e = .returned (.bool (fitR a b l)) ∧ Below w.heap.size w w' := by
  have HV := Lib.hid (rvalid_any a b A Bb ca cb w ha hla hb hlb)
  have HA := Lib.hid ha
  have HB := Lib.hid hb
  have HC := Lib.hid hl
  obtain ⟨L, hL⟩ : ∃ n, n = a.length := ⟨_, rfl⟩
  obtain ⟨M, hM⟩ : ∃ n, n = b.length := ⟨_, rfl⟩
  obtain ⟨K, hK⟩ : ∃ n, n = l.length := ⟨_, rfl⟩
  have HL := Lib.hid hL
  have HM := Lib.hid hM
  have HK := Lib.hid hK
  unfold maxLen at hla hlb hll
  rw [← hL] at HV hla ⊢
  rw [← hM] at HV hlb ⊢
  rw [← hK] at hll ⊢
  by_cases hv : valR a b = 0
  · have V := vd_of hv
    have hM32 : M ≤ 32 := by have := V.lb; omega
    have HVR := Lib.hid hv
    rw [hv] at HV
    by_cases hKL : K = L
    · subst hKL
      have HR := Lib.hid (show fitR a b l = (fitK a b l K).isSome by unfold fitR; rw [hv, HK.out]; simp [← HK.out, ← HL.out])
      have hKz : ((K : Int) != (K : Int)) = false := by simp
      clear ha hb hl hL hM hK hv V hla
      have mk := make_bools w M (by omega)
      obtain ⟨CB, hCB⟩ : ∃ C, C = ((List.replicate M false).map Value.bool).toArray := ⟨_, rfl⟩
      have hbs := BSet.new w (List.replicate M false) w.heap.size rfl
      rw [← hCB] at mk hbs
      clear hCB
      have BS2 := Lib.hid hbs
      have B2 := Lib.hid ((Below.refl w.heap.size w).alloc (Nat.le_refl _) (.cells CB 4))
      clear hbs
      go_enter Try.func31, Try.ntmps31
      go_wp2_with fail
      refine HV.out.mono ?_
      rintro e w1 ⟨rfl, hw⟩
      subst hw
      clear HV
      go_upto_region 4 with fail
      clear mk
      obtain ⟨t, ht⟩ : ∃ t, t = w.heap.size := ⟨_, rfl⟩
      have HT := Lib.hid (show w.heap.size ≤ t by omega)
      rw [← ht] at BS2 ⊢
      generalize w.alloc (.cells CB 4) = w3 at *
      clear ht
      go_wp2_with fail
      go_loopw [8] (fun iv wr => ∃ k : Nat, k ≤ K ∧ iv = .int .i64 (k : Int) ∧ Hid (∃ tk, fitK a b l k = some tk ∧ BSet wr t tk) ∧ Hid (Below w.heap.size w wr)) (fun iv _ => K - (intOf iv).toNat)
      case atStart => exact ⟨0, by omega, rfl, Lib.hid ⟨_, rfl, by rw [← HM.out]; exact BS2.out⟩, B2⟩
      case round =>
        clear BS2 B2
        obtain ⟨k, hk, rfl, FT, B⟩ := hrel
        obtain ⟨tk, hft, hbs⟩ := FT.out
        have HF := Lib.hid hft
        have HBS := Lib.hid hbs
        have HTL := Lib.hid (fitK_len hft)
        clear hft hbs FT
        by_cases hlt : k < K
        · have hltz : (k : Int) < (K : Int) := by omega
          obtain ⟨la, rfl, -, c1⟩ := (HC.out.below B.out) k (by rw [← HK.out]; exact hlt)
          obtain ⟨aa, rfl, -, c2⟩ := (HA.out.below B.out) k (by rw [← HL.out]; exact hlt)
          obtain ⟨y, hy⟩ : ∃ z, z = ld l k := ⟨_, rfl⟩
          obtain ⟨x, hx⟩ : ∃ z, z = ld a k := ⟨_, rfl⟩
          change wr.cell? _ = some (Value.int .i64 (ld l k)) at c1
          change wr.cell? _ = some (Value.int .i64 (ld a k)) at c2
          rw [← hy] at c1
          rw [← hx] at c2
          have HY := Lib.hid hy
          have HX := Lib.hid hx
          clear hy hx
          have HBAD := Lib.hid (show fitK a b l (k + 1) = none → fitR a b l = false from fun h => fitR_none h (by rw [← HK.out]; omega))
          by_cases h0 : x = 0
          · have hx0 : (x == 0) = true := by simp [h0]
            by_cases h1 : y = -1
            · have hy1 : (y != -1) = false := by simp [h1]
              have HN := Lib.hid (show ∃ tk, fitK a b l (k + 1) = some tk ∧ BSet wr t tk from ⟨tk, fitK_zero HF.out (by rw [← HX.out]; exact h0) (by rw [← HY.out]; exact h1), HBS.out⟩)
              clear h0 h1
              go_wp2_with fail
              go_roundw
              case rel => exact ⟨k + 1, by omega, by go_num, HN, B⟩
              case measure => simp [intOf]; omega
            · have hy1 : (y != -1) = true := by simpa using h1
              have HZ := Lib.hid (HBAD.out (fitK_bad0 HF.out (by rw [← HX.out]; exact h0) (by rw [← HY.out]; exact h1)))
              clear h0 h1
              go_wp2_with fail
              go_ret
              exact ⟨ret_bool HZ.out.symm, B.out⟩
          · have hx0 : (x == 0) = false := by simpa using h0
            have HX0 := Lib.hid (show ld a k ≠ 0 by rw [← HX.out]; exact h0)
            clear h0
            by_cases h1 : y < 0
            · have hd1 : decide (y < 0) = true := decide_eq_true h1
              have HZ := Lib.hid (HBAD.out (fitK_bad HF.out HX0.out (Or.inl (by rw [← HY.out]; exact h1))))
              go_upto_region 10 with fail
              go_quiet (fail)
              go_wp2_with fail
              go_ret
              exact ⟨ret_bool HZ.out.symm, bdn B.out⟩
            · obtain ⟨yn, rfl⟩ := Int.eq_ofNat_of_zero_le (show 0 ≤ y by omega)
              have hd1 : decide ((yn : Int) < 0) = false := decide_eq_false h1
              by_cases h2 : M ≤ yn
              · have hd2 : decide ((yn : Int) ≥ (M : Int)) = true := decide_eq_true (by omega)
                have hd2' : decide ((M : Int) ≤ (yn : Int)) = true := decide_eq_true (by omega)
                have hd2n : (M : Int) ≤ (yn : Int) := by omega
                have HZ := Lib.hid (HBAD.out (fitK_bad HF.out HX0.out (Or.inr (Or.inl (by rw [← HY.out, ← HM.out]; omega)))))
                go_upto_region 10 with fail
                go_quiet (fail)
                go_wp2_with fail
                go_ret
                exact ⟨ret_bool HZ.out.symm, bdn B.out⟩
              · have hd2 : decide ((yn : Int) ≥ (M : Int)) = false := decide_eq_false (by omega)
                have hd2' : decide ((M : Int) ≤ (yn : Int)) = false := decide_eq_false (by omega)
                have hyM : (yn : Int) < (M : Int) := by omega
                have hyM2 : yn < M := by omega
                have ct := HBS.out.cell yn (by rw [HTL.out, ← HM.out]; exact hyM2)
                cases h4 : tk.getD yn false with
                | true =>
                  rw [h4] at ct
                  have HZ := Lib.hid (HBAD.out (fitK_bad HF.out HX0.out (Or.inr (Or.inr (Or.inr (by rw [← HY.out, Int.toNat_natCast]; exact h4))))))
                  clear h4
                  go_upto_region 10 with fail
                  go_quiet (fail)
                  go_wp2_with fail
                  go_ret
                  exact ⟨ret_bool HZ.out.symm, bdn B.out⟩
                | false =>
                  rw [h4] at ct
                  have HH4 := Lib.hid h4
                  clear h4
                  obtain ⟨ba, rfl, -, c3⟩ := (HB.out.below B.out) yn (by rw [← HM.out]; exact hyM2)
                  obtain ⟨z, hz⟩ : ∃ z, z = ld b yn := ⟨_, rfl⟩
                  change wr.cell? _ = some (Value.int .i64 (ld b yn)) at c3
                  rw [← hz] at c3
                  have HZB := Lib.hid hz
                  clear hz
                  by_cases h3 : z < x
                  · have hd3 : decide (z < x) = true := decide_eq_true h3
                    have HZ := Lib.hid (HBAD.out (fitK_bad HF.out HX0.out (Or.inr (Or.inr (Or.inl (by rw [← HY.out, Int.toNat_natCast, ← HZB.out, ← HX.out]; exact h3))))))
                    go_upto_region 10 with fail
                    go_quiet (fail)
                    go_wp2_with fail
                    go_ret
                    exact ⟨ret_bool HZ.out.symm, bdn B.out⟩
                  · have hd3 : decide (z < x) = false := decide_eq_false h3
                    have HG := Lib.hid (fitK_good HF.out HX0.out HY.out.symm (by rw [← HM.out]; exact hyM2) (by rw [← HZB.out, ← HX.out]; exact h3) HH4.out)
                    go_upto_region 10 with fail
                    go_quiet (fail)
                    have ct2 : (wr.drewN nq).cell? ⟨t, yn, none⟩ = some (.bool false) := ct
                    have ft2 : (wr.drewN nq).frozen? ⟨t, yn, none⟩ = false := HBS.out.frozen yn
                    have HN := Lib.hid (show ∃ tk, fitK a b l (k + 1) = some tk ∧ BSet ((wr.drewN nq).setCell ⟨t, yn, none⟩ (.bool true)) t tk from ⟨_, HG.out, (HBS.out.drewN nq).set yn true⟩)
                    have HB2 := Lib.hid ((bdn (n := nq) B.out).setCell (p := ⟨t, yn, none⟩) HT.out (.bool true))
                    clear ct
                    go_wp2_with fail
                    go_roundw
                    case rel => exact ⟨k + 1, by omega, by go_num, HN, HB2⟩
                    case measure => simp [intOf]; omega
        · obtain rfl : k = K := by omega
          have hltz : ¬ (k : Int) < (k : Int) := by omega
          go_wp2_with fail
          go_ret
          exact ⟨ret_bool (by rw [HR.out, HF.out]; rfl), B.out⟩
    · have hKz : ((K : Int) != (L : Int)) = true := by simp; omega
      have HF := Lib.hid (show fitR a b l = false by unfold fitR; rw [hv]; simp; omega)
      clear ha hb hl hL hM hK hv V
      go_enter Try.func31, Try.ntmps31
      go_wp2_with fail
      refine HV.out.mono ?_
      rintro e w1 ⟨rfl, hw⟩
      subst hw
      clear HV
      go_wp2_with fail
      go_ret
      exact ⟨ret_bool HF.out.symm, Below.refl _ _⟩
  · obtain ⟨ev, hev⟩ : ∃ z, z = valR a b := ⟨_, rfl⟩
    rw [← hev] at HV
    have hne : (ev != 0) = true := by rw [hev]; simpa using hv
    have HF := Lib.hid (show fitR a b l = false by unfold fitR; rw [decide_eq_false hv]; rfl)
    clear ha hb hl hL hM hK hv hev
    go_enter Try.func31, Try.ntmps31
    go_wp2_with fail
    refine HV.out.mono ?_
    rintro e w1 ⟨rfl, hw⟩
    subst hw
    clear HV
    go_wp2_with fail
    go_ret
    exact ⟨ret_bool HF.out.symm, Below.refl _ _⟩
set_option maxRecDepth 100000 in
set_option maxHeartbeats 6400000 in
theorem rrefuses_any (a b r : List Int) (A Bb C : Option Addr) (ca cb cl : Nat) (w : World) (ha : Row .i64 w w.heap.size A a) (hla : a.length ≤ maxLen) (hb : Row .i64 w w.heap.size Bb b) (hlb : b.length ≤ maxLen) (hl : Row .i64 w w.heap.size C r) (hll : r.length ≤ maxLen) :
    Calls Try.prog 32 #[.slice A a.length ca, .slice Bb b.length cb, .slice C r.length cl] w fun e w' => e = .returned (.bool (refR a b r)) ∧ Below w.heap.size w w' := by
  have HV := Lib.hid (rvalid_any a b A Bb ca cb w ha hla hb hlb)
  have HA := Lib.hid ha
  have HB := Lib.hid hb
  have HC := Lib.hid hl
  obtain ⟨L, hL⟩ : ∃ n, n = a.length := ⟨_, rfl⟩
  obtain ⟨M, hM⟩ : ∃ n, n = b.length := ⟨_, rfl⟩
  obtain ⟨K, hK⟩ : ∃ n, n = r.length := ⟨_, rfl⟩
  have HL := Lib.hid hL
  have HM := Lib.hid hM
  have HK := Lib.hid hK
  unfold maxLen at hla hlb hll
  rw [← hL] at HV hla ⊢
  rw [← hM] at HV hlb ⊢
  rw [← hK] at hll ⊢
  by_cases hv : valR a b = 0
  · have HVR := Lib.hid hv
    rw [hv] at HV
    have HR := Lib.hid (show refR a b r = (risK r K && (okK a r K && decide ((cF b (leastK a r K) : Int) < (K : Int)))) by unfold refR; rw [hv, HK.out]; simp)
    by_cases hK0 : K = 0
    · have HF := Lib.hid (show refR a b r = false by rw [HR.out, hK0, decide_eq_false (by omega)]; simp)
      have hKz : ((K : Int) == 0) = true := by simp [hK0]
      clear ha hb hl hL hM hK hv hK0
      go_enter Try.func32, Try.ntmps32
      go_wp2_with fail
      refine HV.out.mono ?_
      rintro e w1 ⟨rfl, hw⟩
      subst hw
      clear HV
      go_wp2_with fail
      go_ret
      exact ⟨ret_bool HF.out.symm, Below.refl _ _⟩
    · have hKz : ((K : Int) == 0) = false := by simp; omega
      clear ha hb hl hL hM hK hv
      go_enter Try.func32, Try.ntmps32
      go_wp2_with fail
      refine HV.out.mono ?_
      rintro e w1 ⟨rfl, hw⟩
      subst hw
      clear HV
      go_wp2_with fail
      go_loop [7, 8] (fun mv iv => ∃ (k : Nat) (m : Int), k ≤ K ∧ iv = .int .i64 (k : Int) ∧ mv = .int .i64 m ∧ Hid (risK r k = true) ∧ Hid (okK a r k = true) ∧ Hid (leastK a r k = m)) (fun _ iv => K - (intOf iv).toNat)
      case atStart => exact ⟨0, 38400, by omega, rfl, rfl, Lib.hid rfl, Lib.hid rfl, Lib.hid rfl⟩
      case round =>
        obtain ⟨k, m, hk, rfl, rfl, RS, OK, LM⟩ := hrel
        by_cases hlt : k < K
        · have hltz : (k : Int) < (K : Int) := by omega
          obtain ⟨la, rfl, -, c1⟩ := HC.out k (by rw [← HK.out]; exact hlt)
          obtain ⟨y, hy⟩ : ∃ z, z = ld r k := ⟨_, rfl⟩
          change w.cell? _ = some (Value.int .i64 (ld r k)) at c1
          rw [← hy] at c1
          have HY := Lib.hid hy
          have HS := Lib.hid (show okK a r (k + 1) = decide (0 ≤ y ∧ y < (L : Int) ∧ ld a y.toNat ≠ 0) by rw [okK_succ, OK.out, Bool.true_and, hy, HL.out]; rfl)
          have HBAD := Lib.hid (show okK a r (k + 1) = false → refR a b r = false from fun h => by rw [HR.out, okK_part h (by omega), Bool.false_and, Bool.and_false])
          have HBAS := Lib.hid (show risK r (k + 1) = false → refR a b r = false from fun h => by rw [HR.out, risK_part h (by omega)]; rfl)
          clear hy
          by_cases h1 : y < 0
          · have HZ := Lib.hid (HBAD.out (by rw [HS.out]; exact decide_eq_false (by omega)))
            go_wp2_with fail
            go_ret
            exact ⟨ret_bool HZ.out.symm, Below.refl _ _⟩
          · obtain ⟨yn, rfl⟩ := Int.eq_ofNat_of_zero_le (show 0 ≤ y by omega)
            by_cases h2 : L ≤ yn
            · have h2z : (L : Int) ≤ (yn : Int) := by omega
              have HZ := Lib.hid (HBAD.out (by rw [HS.out]; exact decide_eq_false (by omega)))
              go_wp2_with fail
              go_ret
              exact ⟨ret_bool HZ.out.symm, Below.refl _ _⟩
            · have h2z : ¬ (L : Int) ≤ (yn : Int) := by omega
              have h2y : (yn : Int) < (L : Int) := by omega
              obtain ⟨aa, rfl, -, c2⟩ := HA.out yn (by rw [← HL.out]; omega)
              obtain ⟨x, hx⟩ : ∃ z, z = ld a yn := ⟨_, rfl⟩
              change w.cell? _ = some (Value.int .i64 (ld a yn)) at c2
              rw [← hx] at c2
              have HX := Lib.hid hx
              clear hx
              by_cases h3 : x = 0
              · have hx0 : (x == 0) = true := by simp [h3]
                have HZ := Lib.hid (HBAD.out (by rw [HS.out]; exact decide_eq_false (by rw [Int.toNat_natCast, ← HX.out]; omega)))
                clear h3
                go_wp2_with fail
                go_ret
                exact ⟨ret_bool HZ.out.symm, Below.refl _ _⟩
              · have hx0 : (x == 0) = false := by simpa using h3
                have HN := Lib.hid (show okK a r (k + 1) = true by rw [HS.out]; exact decide_eq_true ⟨by omega, h2y, by rw [Int.toNat_natCast, ← HX.out]; exact h3⟩)
                obtain ⟨m2, hm2⟩ : ∃ z, z = min2 m x := ⟨_, rfl⟩
                have hmn : ∀ w ts t, (Builtin.min_ ts t #[.int .i64 m, .int .i64 x]).run Try.prog w = .ok (.int .i64 m2) w := fun w ts t => by rw [run_min2, hm2]
                have HM2 := Lib.hid (show leastK a r (k + 1) = m2 by
                  show min2 (leastK a r k) (ld a (ld r k).toNat) = m2
                  rw [LM.out, ← HY.out, Int.toNat_natCast, ← HX.out, hm2])
                clear h3 hm2
                by_cases hk0 : k = 0
                · subst hk0
                  have HRS := Lib.hid (show risK r (0 + 1) = true by rw [risK_succ, RS.out, decide_eq_true (Or.inl rfl)]; rfl)
                  have d1 : w.cell? la = some (.int .i64 (yn : Int)) := by have e0 : la.add 0 = la := by { unfold Addr.add; rw [if_pos rfl] }; rw [← e0]; exact c1
                  clear c1
                  go_wp2_with fail
                  go_round
                  case rel => exact ⟨1, m2, by omega, by go_num, rfl, HRS, HN, HM2⟩
                  case measure => simp [intOf]; omega
                · obtain ⟨j, rfl⟩ : ∃ j, k = j + 1 := ⟨k - 1, by omega⟩
                  obtain ⟨la2, e2, -, c3⟩ := HC.out j (by rw [← HK.out]; omega)
                  injection e2 with e2
                  subst e2
                  obtain ⟨v, hv⟩ : ∃ z, z = ld r j := ⟨_, rfl⟩
                  change w.cell? _ = some (Value.int .i64 (ld r j)) at c3
                  rw [← hv] at c3
                  have HU := Lib.hid (show risK r (j + 1 + 1) = decide (v < (yn : Int)) by
                    rw [risK_succ, RS.out, Bool.true_and]
                    have : (j + 1 = 0 ∨ ld r (j + 1 - 1) < ld r (j + 1)) ↔ v < (yn : Int) := by
                      rw [Nat.add_sub_cancel, ← hv, ← HY.out]
                      constructor
                      · rintro (g | g)
                        · omega
                        · exact g
                      · exact fun g => Or.inr g
                    exact decide_eq_decide.2 this)
                  have d1 : w.cell? ⟨la.block, la.off + (j + 1), none⟩ = some (.int .i64 (yn : Int)) := c1
                  clear c1
                  have hj1 : ((j : Int) + 1) < (K : Int) := by omega
                  have hj0 : (j : Int) < (K : Int) := by omega
                  have hjp : (0 : Int) < (j : Int) + 1 := by omega
                  have wj : IntKind.i64.wrap (j : Int) = (j : Int) := IntWalk.i64_in _ (by omega)
                  have wj1 : IntKind.i64.wrap ((j : Int) + 1 - 1) = (j : Int) := by rw [Int.add_sub_cancel]; exact wj
                  have j0 : (0 : Int) ≤ (j : Int) + 1 := by omega
                  have jt : ((j : Int) + 1).toNat = j + 1 := by omega
                  clear hv hk0
                  by_cases t1 : v < (yn : Int)
                  · have HRS := Lib.hid (show risK r (j + 1 + 1) = true by rw [HU.out, decide_eq_true t1])
                    have t1' : ¬ (yn : Int) ≤ v := by omega
                    go_wp2_with fail
                    go_round
                    case rel => exact ⟨j + 1 + 1, m2, by omega, by go_num, rfl, HRS, HN, HM2⟩
                    case measure => simp [intOf]; omega
                  · have HZ := Lib.hid (HBAS.out (by rw [HU.out, decide_eq_false t1]))
                    have t1' : (yn : Int) ≤ v := by omega
                    go_wp2_with fail
                    go_ret
                    exact ⟨ret_bool HZ.out.symm, Below.refl _ _⟩
        · obtain rfl : k = K := by omega
          have hltz : ¬ (k : Int) < (k : Int) := by omega
          have HF := Lib.hid (show refR a b r = decide ((cF b m : Int) < (k : Int)) by rw [HR.out, RS.out, OK.out, LM.out]; simp)
          clear HR
          go_wp2_with fail
          go_loop [10, 11] (fun cv iv => ∃ (j C : Nat), j ≤ M ∧ C ≤ j ∧ iv = .int .i64 (j : Int) ∧ cv = .int .i64 (C : Int) ∧ Hid (cK b m j = C)) (fun _ iv => M - (intOf iv).toNat)
          case atStart => exact ⟨0, 0, by omega, Nat.le_refl _, rfl, rfl, Lib.hid rfl⟩
          case round =>
            obtain ⟨j, C, hj, hC, rfl, rfl, G⟩ := hrel
            by_cases hlt2 : j < M
            · have hltz2 : (j : Int) < (M : Int) := by omega
              obtain ⟨ad, rfl, -, c1⟩ := HB.out j (by rw [← HM.out]; exact hlt2)
              have hs := cK_succ b m j
              obtain ⟨z, hz⟩ : ∃ z, z = b.getD j 0 := ⟨_, rfl⟩
              unfold ld at hs
              rw [← hz] at c1 hs
              have HS := Lib.hid hs
              clear hz hs
              by_cases t1 : m ≤ z
              · have HF1 := Lib.hid (show cK b m (j + 1) = C + 1 by rw [HS.out, if_pos t1, G.out])
                go_wp2_with fail
                go_round
                case rel => exact ⟨j + 1, C + 1, by omega, by omega, by go_num, by go_num, HF1⟩
                case measure => simp [intOf] <;> omega
              · have HF1 := Lib.hid (show cK b m (j + 1) = C by rw [HS.out, if_neg t1, G.out]; rfl)
                go_wp2_with fail
                go_round
                case rel => exact ⟨j + 1, C, by omega, by omega, by go_num, rfl, HF1⟩
                case measure => simp [intOf] <;> omega
            · obtain rfl : j = M := by omega
              have hltz2 : ¬ (j : Int) < (j : Int) := by omega
              have HFF := Lib.hid (show refR a b r = decide ((C : Int) < (k : Int)) by have := G.out; rw [HM.out] at this; rw [HF.out, ← this]; rfl)
              go_wp2_with fail
              go_ret
              exact ⟨ret_bool (by rw [HFF.out]; simp), Below.refl _ _⟩
  · obtain ⟨ev, hev⟩ : ∃ z, z = valR a b := ⟨_, rfl⟩
    rw [← hev] at HV
    have hne : (ev != 0) = true := by rw [hev]; simpa using hv
    have HF := Lib.hid (show refR a b r = false by unfold refR; rw [decide_eq_false hv]; rfl)
    clear ha hb hl hL hM hK hv hev
    go_enter Try.func32, Try.ntmps32
    go_wp2_with fail
    refine HV.out.mono ?_
    rintro e w1 ⟨rfl, hw⟩
    subst hw
    clear HV
    go_wp2_with fail
    go_ret
    exact ⟨ret_bool HF.out.symm, Below.refl _ _⟩
end Go.Proofs.Ytknkgcphamhjlaa
