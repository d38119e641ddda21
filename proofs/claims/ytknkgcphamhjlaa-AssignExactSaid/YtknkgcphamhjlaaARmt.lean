/-
  Stage 16: the reference's Match.
-/
import Derived.Test.YtknkgcphamhjlaaARpl
import Derived.Test.YtknkgcphamhjlaaARef1
set_option linter.unusedSimpArgs false
set_option linter.unusedVariables false
namespace Go.Proofs.Ytknkgcphamhjlaa
open Go.RowKit Go.Lib

/-- The state of the reference's Match: g is the assignment, t the taken tracks, d the loads that are done. -/
structure RSt (a b : List Int) (os : List Nat) (L : Nat) (w : World) (g t d k kd : Nat) (wr : World) : Prop where
  lo : Own .i64 3 wr w.heap.size (.slice (some ⟨g, 0, none⟩) L L) (stM a b os k).2
  bs : BSet wr t (stM a b os k).1
  ds : BSet wr d (dnL a os kd)
  gt : g ≠ t
  gd : g ≠ d
  td : t ≠ d
  gw : w.heap.size ≤ g
  tw : w.heap.size ≤ t
  dw : w.heap.size ≤ d
  bel : Below w.heap.size w wr
theorem RSt.drewN {a b : List Int} {os : List Nat} {L : Nat} {w : World} {g t d k kd : Nat} {wr : World} (h : RSt a b os L w g t d k kd wr) (n : Nat) : RSt a b os L w g t d k kd (wr.drewN n) :=
  ⟨h.lo.drewN n, h.bs.drewN n, h.ds.drewN n, h.gt, h.gd, h.td, h.gw, h.tw, h.dw, bdn h.bel⟩
theorem RSt.mark {a b : List Int} {os : List Nat} {L : Nat} {w : World} {g t d k : Nat} {wr : World} (h : RSt a b os L w g t d k k wr) {x : Nat} (hx : os.getD k 0 = x) : RSt a b os L w g t d k (k + 1) (wr.setCell ⟨d, x, none⟩ (.bool true)) := by
  refine ⟨h.lo.setN (fun g' hg' => ?_) _, h.bs.setN (p := ⟨d, x, none⟩) h.td _, ?_, h.gt, h.gd, h.td, h.gw, h.tw, h.dw, h.bel.setCell (p := ⟨d, x, none⟩) h.dw _⟩
  · have e : g = g' := by simpa [Value.ownBlock] using hg'
    subst e
    exact h.gd
  · have := h.ds.set x true
    unfold dnL
    rw [hx]
    exact this
theorem RSt.step {a b : List Int} {os : List Nat} {L : Nat} {w : World} {g t d k kd : Nat} {wr : World} (h : RSt a b os L w g t d k kd wr) (hL : L = a.length) {x y : Nat} (hx : os.getD k 0 = x) (hy : yM a b os k = (y : Int)) :
    RSt a b os L w g t d (k + 1) kd ((wr.setCell ⟨t, y, none⟩ (.bool true)).setCell ⟨g, x, none⟩ (.int .i64 (y : Int))) := by
  have es := stM_succ a b os k
  rw [hy, Int.toNat_natCast, hx] at es
  have h1 : Own .i64 3 (wr.setCell ⟨t, y, none⟩ (.bool true)) w.heap.size (.slice (some ⟨g, 0, none⟩) L L) (stM a b os k).2 := h.lo.setN (fun g' hg' => by
    have e : g = g' := by simpa [Value.ownBlock] using hg'
    subst e
    exact h.gt) _
  refine ⟨?_, ?_, (h.ds.setN (p := ⟨t, y, none⟩) (Ne.symm h.td) _).setN (p := ⟨g, x, none⟩) (Ne.symm h.gd) _, h.gt, h.gd, h.td, h.gw, h.tw, h.dw, (h.bel.setCell (p := ⟨t, y, none⟩) h.tw _).setCell (p := ⟨g, x, none⟩) h.gw _⟩
  · rw [es]
    exact h1.store (by rw [(stM_len a b os k).2, hL]) x (y : Int)
  · rw [es]
    exact (h.bs.set y true).setN (p := ⟨g, x, none⟩) (Ne.symm h.gt) _
set_option maxRecDepth 400000 in
set_option maxHeartbeats 12800000 in
theorem rmatch_any (a b : List Int) (A Bb : Option Addr) (ca cb : Nat) (w : World) (ha : Row .i64 w w.heap.size A a) (hla : a.length ≤ maxLen) (hb : Row .i64 w w.heap.size Bb b) (hlb : b.length ≤ maxLen) :
    Calls Try.prog 14 #[.slice A a.length ca, .slice Bb b.length cb] w (MatPost a b w) := by
  have HV := Lib.hid (rvalid_any a b A Bb ca cb w ha hla hb hlb)
  have HA := Lib.hid ha
  have HB := Lib.hid hb
  obtain ⟨os, hos0⟩ := exists_ord a
  have HO := Lib.hid hos0
  obtain ⟨L, hL⟩ : ∃ n, n = a.length := ⟨_, rfl⟩
  obtain ⟨M, hM⟩ : ∃ n, n = b.length := ⟨_, rfl⟩
  have HL := Lib.hid hL
  have HM := Lib.hid hM
  by_cases hv : valR a b = 0
  · have V := vd_of hv
    have HVR := Lib.hid hv
    have hl1 := V.la
    have hl2 := V.lb
    rw [hv] at HV
    rw [← hL] at HV hl1 ⊢
    rw [← hM] at HV hl2 ⊢
    obtain ⟨n, hn⟩ : ∃ n, n = os.length := ⟨_, rfl⟩
    have HN := Lib.hid hn
    clear ha hla hb hlb V hv hL hM hos0 hn
    go_enter Try.func14, Try.ntmps14
    go_wp2_with fail
    refine HV.out.mono ?_
    rintro e w1 ⟨rfl, hw⟩
    subst hw
    clear HV
    have mk := make_intsA w L (by omega)
    obtain ⟨CB, hCB⟩ : ∃ C, C = ((List.replicate L 0).map (Value.int .i64)).toArray := ⟨_, rfl⟩
    have O0 := Own.laid (k := .i64) (T := 3) w w.heap.size (Nat.le_refl _) (List.replicate L 0) L (by simp) (by omega)
    rw [← hCB] at mk O0
    rw [← mnK_zero] at O0
    clear hCB
    have OO := Lib.hid O0
    have B2 := Lib.hid ((Below.refl w.heap.size w).alloc (Nat.le_refl _) (.cells CB 3))
    clear O0
    go_upto_region 5 with fail
    clear mk
    obtain ⟨g, hg⟩ : ∃ t, t = w.heap.size := ⟨_, rfl⟩
    have HG := Lib.hid (show w.heap.size ≤ g by omega)
    rw [← hg] at OO ⊢
    have OO2 := Lib.hid (show Own .i64 3 (w.alloc (.cells CB 3)) w.heap.size (.slice (some ⟨g, 0, none⟩) L L) (mnK L 0) from hg ▸ OO.out)
    clear OO
    generalize w.alloc (.cells CB 3) = w3 at *
    clear hg
    go_wp2_with fail
    go_loopw [9] (fun iv wr => ∃ i : Nat, i ≤ L ∧ iv = .int .i64 (i : Int) ∧ Hid (Own .i64 3 wr w.heap.size (.slice (some ⟨g, 0, none⟩) L L) (mnK L i)) ∧ Hid (Below w.heap.size w wr)) (fun iv _ => L - (intOf iv).toNat)
    case atStart => exact ⟨0, by omega, rfl, OO2, B2⟩
    case round =>
      clear OO2 B2
      obtain ⟨i, hi, rfl, O, B⟩ := hrel
      by_cases hlt : i < L
      · have hltz : (i : Int) < (L : Int) := by omega
        have cg := O.out.cell (by rw [mnK_len]) i (by rw [mnK_len]; exact hlt)
        have fg := O.out.frozen (by rw [mnK_len]) i
        have HS := O.out.store (by rw [mnK_len]) i (-1)
        rw [mnK_succ hlt] at HS
        have HS2 := Lib.hid HS
        have HB2 := Lib.hid (B.out.setCell (p := ⟨g, i, none⟩) HG.out (.int .i64 (-1)))
        generalize (mnK L i).getD i 0 = q1 at cg
        clear HS
        go_wp2_with fail
        go_roundw
        case rel => exact ⟨i + 1, by omega, by go_num, HS2, HB2⟩
        case measure => simp [intOf]; omega
      · have hiL : i = L := by omega
        have hltz : ¬ (i : Int) < (L : Int) := by omega
        have OL := Lib.hid (show Own .i64 3 wr w.heap.size (.slice (some ⟨g, 0, none⟩) L L) (stM a b os 0).2 by
          have := O.out
          rw [hiL, mnK_full] at this
          show Own _ _ _ _ _ (List.replicate a.length (-1))
          rw [← HL.out]; exact this)
        have HGL := Lib.hid (own_block OL.out (g := g) rfl).2
        have mk := make_bools wr M (by omega)
        obtain ⟨CB2, hCB⟩ : ∃ C, C = ((List.replicate M false).map Value.bool).toArray := ⟨_, rfl⟩
        have hbs := BSet.new wr (List.replicate M false) wr.heap.size rfl
        rw [← hCB] at mk hbs
        clear hCB O
        have BS2 := Lib.hid hbs
        have B3 := Lib.hid (B.out.alloc B.out.size (.cells CB2 4))
        have O2 := Lib.hid (OL.out.alloc (.cells CB2 4))
        have HWT := Lib.hid B.out.size
        clear hbs OL
        go_upto_region 10 with fail
        clear mk
        obtain ⟨t, ht⟩ : ∃ t, t = wr.heap.size := ⟨_, rfl⟩
        have HGT := Lib.hid (show g ≠ t by have := HGL.out; omega)
        rw [← ht] at BS2 HWT ⊢
        clear ht HGL B
        generalize wr.alloc (.cells CB2 4) = w4 at *
        have mk := make_bools w4 L (by omega)
        obtain ⟨CB3, hCB⟩ : ∃ C, C = ((List.replicate L false).map Value.bool).toArray := ⟨_, rfl⟩
        have hbs := BSet.new w4 (List.replicate L false) w4.heap.size rfl
        rw [← hCB] at mk hbs
        clear hCB
        have DS := Lib.hid hbs
        have HTL := Lib.hid BS2.out.lt
        have HGL := Lib.hid (own_block O2.out (g := g) rfl).2
        have BS3 := Lib.hid (BS2.out.below ((Below.refl w4.heap.size w4).alloc (Nat.le_refl _) (.cells CB3 4)) HTL.out)
        have B4 := Lib.hid (B3.out.alloc B3.out.size (.cells CB3 4))
        have O3 := Lib.hid (O2.out.alloc (.cells CB3 4))
        have HWD := Lib.hid B3.out.size
        clear hbs O2 BS2 B3
        go_upto_region 11 with fail
        clear mk
        obtain ⟨d, hd⟩ : ∃ t, t = w4.heap.size := ⟨_, rfl⟩
        rw [← hd] at DS HTL HGL HWD ⊢
        clear hd
        generalize w4.alloc (.cells CB3 4) = w5 at *
        have S0 := Lib.hid (show RSt a b os L w g t d 0 0 w5 from ⟨O3.out, by
          have := BS3.out
          rw [HM.out] at this
          exact this, by
          have := DS.out
          rw [HL.out] at this
          exact this, HGT.out, by have := HGL.out; omega, by have := HTL.out; omega, HG.out, HWT.out, HWD.out, B4.out⟩)
        clear O3 BS3 DS HGT HGL HTL HG HWT HWD B4 hltz hiL hlt hi
        go_wp2_with fail
        go_loopw [12] (fun _ wr => ∃ k : Nat, k ≤ n ∧ Hid (OkTo a b os k) ∧ Hid (RSt a b os L w g t d k k wr)) (fun _ wr => msW a os d wr)
        case atStart => exact ⟨0, by omega, Lib.hid (fun k hk => absurd hk (Nat.not_lt_zero _)), S0⟩
        case round =>
          clear S0
          obtain ⟨k, hk, OK, S⟩ := hrel
          have HMS := Lib.hid (msW_eq HO.out (by rw [← HN.out]; exact hk) S.out.ds)
          go_wp2_with fail
          go_loopw [12, 13] (fun nv iv wi => ∃ (i : Nat) (Z : Int), i ≤ L ∧ iv = .int .i64 (i : Int) ∧ nv = .int .i64 Z ∧ Hid (nextZ a (dnL a os k) i = Z) ∧ Hid (RSt a b os L w g t d k k wi)) (fun _ iv _ => L - (intOf iv).toNat)
          case atStart => exact ⟨0, -1, by omega, rfl, rfl, Lib.hid rfl, S⟩
          case round =>
            clear S
            obtain ⟨i, Z, hi, rfl, rfl, NZ, S⟩ := hrel
            by_cases hlt : i < L
            · have hltz : (i : Int) < (L : Int) := by omega
              obtain ⟨aa, rfl, -, c1⟩ := (HA.out.below S.out.bel) i (by rw [← HL.out]; exact hlt)
              obtain ⟨x, hx⟩ : ∃ z, z = ld a i := ⟨_, rfl⟩
              change World.cell? _ _ = some (Value.int .i64 (ld a i)) at c1
              rw [← hx] at c1
              have HX := Lib.hid hx
              clear hx
              by_cases h0 : 0 < x
              · have hd0 : decide (x > 0) = true := decide_eq_true h0
                have hd1 : decide (0 < x) = true := decide_eq_true h0
                have cd := S.out.ds.cell i (by rw [dnL_len, ← HL.out]; exact hlt)
                have HX0 := Lib.hid (show 0 < ld a i by rw [← HX.out]; exact h0)
                cases h1 : (dnL a os k).getD i false with
                | true =>
                  rw [h1] at cd
                  have HF := Lib.hid ((nextZ_no (a := a) (Or.inr h1)).trans NZ.out)
                  clear h1
                  go_upto_region 15 with fail
                  go_quiet (fail)
                  have HS := Lib.hid (S.out.drewN nq)
                  go_wp2_with fail
                  go_roundw
                  case rel => exact ⟨i + 1, Z, by omega, by go_num, rfl, HF, HS⟩
                  case measure => simp [intOf]; omega
                | false =>
                  rw [h1] at cd
                  have HH := Lib.hid h1
                  clear h1
                  rcases nextZ_spec a (dnL a os k) i with ⟨e1, -⟩ | ⟨y, e1, e2, -, -, -⟩
                  · rw [NZ.out] at e1
                    subst e1
                    have HF := Lib.hid (nextZ_new HX0.out HH.out (Or.inl NZ.out))
                    go_upto_region 15 with fail
                    go_quiet (fail)
                    have HS := Lib.hid (S.out.drewN nq)
                    go_wp2_with fail
                    go_roundw
                    case rel => exact ⟨i + 1, _, by omega, by go_num, rfl, HF, HS⟩
                    case measure => simp [intOf]; omega
                  · rw [NZ.out] at e1
                    subst e1
                    obtain ⟨aa2, e3, -, c2⟩ := (HA.out.below S.out.bel) y (by rw [← HL.out]; omega)
                    injection e3 with e3
                    subst e3
                    obtain ⟨v, hv⟩ : ∃ z, z = ld a y := ⟨_, rfl⟩
                    change World.cell? _ _ = some (Value.int .i64 (ld a y)) at c2
                    rw [← hv] at c2
                    have HVV := Lib.hid hv
                    clear hv
                    have hy0 : decide ((y : Int) < 0) = false := decide_eq_false (by omega)
                    have hyL : (y : Int) < (L : Int) := by omega
                    have hyLn : y < L := by omega
                    by_cases h2 : v < x
                    · have hd2 : decide (x > v) = true := decide_eq_true h2
                      have hd3 : decide (v < x) = true := decide_eq_true h2
                      have HF := Lib.hid (nextZ_new HX0.out HH.out (Or.inr (by rw [NZ.out, Int.toNat_natCast, ← HVV.out, ← HX.out]; exact h2)))
                      go_upto_region 15 with fail
                      go_quiet (fail)
                      have HS := Lib.hid (S.out.drewN nq)
                      go_wp2_with fail
                      go_roundw
                      case rel => exact ⟨i + 1, _, by omega, by go_num, rfl, HF, HS⟩
                      case measure => simp [intOf]; omega
                    · have hd2 : decide (x > v) = false := decide_eq_false h2
                      have hd3 : decide (v < x) = false := decide_eq_false h2
                      have HF := Lib.hid (nextZ_old NZ.out (by rw [← HVV.out, ← HX.out]; exact h2))
                      go_upto_region 15 with fail
                      go_quiet (fail)
                      have HS := Lib.hid (S.out.drewN nq)
                      go_wp2_with fail
                      go_roundw
                      case rel => exact ⟨i + 1, _, by omega, by go_num, rfl, HF, HS⟩
                      case measure => simp [intOf]; omega
              · have hd0 : decide (x > 0) = false := decide_eq_false h0
                have hd1 : decide (0 < x) = false := decide_eq_false h0
                have HF := Lib.hid ((nextZ_no (D := dnL a os k) (Or.inl (show ¬ 0 < ld a i by rw [← HX.out]; exact h0))).trans NZ.out)
                go_upto_region 15 with fail
                go_quiet (fail)
                have HS := Lib.hid (S.out.drewN nq)
                go_wp2_with fail
                go_roundw
                case rel => exact ⟨i + 1, Z, by omega, by go_num, rfl, HF, HS⟩
                case measure => simp [intOf]; omega
            · have hiL : i = L := by omega
              have hltz : ¬ (i : Int) < (L : Int) := by omega
              have NE := NZ.out
              rw [hiL, HL.out] at NE
              by_cases hkn : k < n
              · have hkl : k < os.length := by rw [← HN.out]; exact hkn
                obtain ⟨x, hx⟩ : ∃ x, x = os.getD k 0 := ⟨_, rfl⟩
                have eZ : Z = (x : Int) := by rw [← NE, next_some HO.out hkl, hx]
                subst eZ
                have hxL : x < L := by rw [hx, HL.out]; exact (HO.out.at_ hkl).1
                have hxLz : (x : Int) < (L : Int) := by omega
                have hx0 : ¬ (x : Int) < 0 := by omega
                have HX := Lib.hid hx
                have HKL := Lib.hid hkl
                have cd := S.out.ds.cell x (by rw [dnL_len, ← HL.out]; exact hxL)
                have fd := S.out.ds.frozen x
                have HS1 := Lib.hid (S.out.mark hx.symm)
                generalize (dnL a os k).getD x false = q0 at cd
                clear NE hx hkl NZ
                go_wp2_with fail
                clear cd fd S hltz hiL
                obtain ⟨zx, hzx⟩ : ∃ z, z = ld a x := ⟨_, rfl⟩
                have HZX := Lib.hid hzx
                clear hzx
                go_loopw [14, 15] (fun bv jv wj => ∃ (j : Nat) (Y : Int), j ≤ M ∧ jv = .int .i64 (j : Int) ∧ bv = .int .i64 Y ∧ Hid (bestZ b (stM a b os k).1 zx j = Y) ∧ Hid (RSt a b os L w g t d k (k + 1) wj)) (fun _ jv _ => M - (intOf jv).toNat)
                case atStart => exact ⟨0, -1, by omega, rfl, rfl, Lib.hid rfl, HS1⟩
                case round =>
                  clear HS1
                  obtain ⟨j, Y, hj, rfl, rfl, G, S⟩ := hrel
                  by_cases hlt2 : j < M
                  · have hltz2 : (j : Int) < (M : Int) := by omega
                    have ck := S.out.bs.cell j (by rw [(stM_len a b os k).1, ← HM.out]; exact hlt2)
                    cases h1 : (stM a b os k).1.getD j false with
                    | true =>
                      rw [h1] at ck
                      have HF := Lib.hid ((bestZ_skip (b := b) (x := zx) (Or.inr h1)).trans G.out)
                      clear h1
                      go_upto_region 24 with fail
                      go_quiet (fail)
                      have HS := Lib.hid (S.out.drewN nq)
                      go_wp2_with fail
                      go_roundw
                      case rel => exact ⟨j + 1, Y, by omega, by go_num, rfl, HF, HS⟩
                      case measure => simp [intOf]; omega
                    | false =>
                      rw [h1] at ck
                      have HH := Lib.hid h1
                      clear h1
                      obtain ⟨ba, rfl, -, c1⟩ := (HB.out.below S.out.bel) j (by rw [← HM.out]; exact hlt2)
                      obtain ⟨aa, rfl, -, c2⟩ := (HA.out.below S.out.bel) x (by rw [← HL.out]; exact hxL)
                      change World.cell? _ _ = some (Value.int .i64 (ld a x)) at c2
                      rw [← HZX.out] at c2
                      obtain ⟨z, hz⟩ : ∃ z, z = ld b j := ⟨_, rfl⟩
                      change World.cell? _ _ = some (Value.int .i64 (ld b j)) at c1
                      rw [← hz] at c1
                      have HZ := Lib.hid hz
                      clear hz
                      by_cases t1 : z < zx
                      · have hd1 : decide (z ≥ zx) = false := decide_eq_false (by omega)
                        have hd2 : decide (zx ≤ z) = false := decide_eq_false (by omega)
                        have HF := Lib.hid ((bestZ_skip (tk := (stM a b os k).1) (x := zx) (Or.inl (show ld b j < zx by rw [← HZ.out]; exact t1))).trans G.out)
                        go_upto_region 24 with fail
                        go_quiet (fail)
                        have HS := Lib.hid (S.out.drewN nq)
                        go_wp2_with fail
                        go_roundw
                        case rel => exact ⟨j + 1, Y, by omega, by go_num, rfl, HF, HS⟩
                        case measure => simp [intOf]; omega
                      · have hd1 : decide (z ≥ zx) = true := decide_eq_true (by omega)
                        have hd2 : decide (zx ≤ z) = true := decide_eq_true (by omega)
                        have HT1 := Lib.hid (show ¬ ld b j < zx by rw [← HZ.out]; exact t1)
                        rcases bestZ_spec b (stM a b os k).1 zx j with ⟨e1, -⟩ | ⟨y, e1, e2, -, -⟩
                        · rw [G.out] at e1
                          subst e1
                          have HF := Lib.hid (bestZ_new HT1.out HH.out (Or.inl G.out))
                          go_upto_region 24 with fail
                          go_quiet (fail)
                          have HS := Lib.hid (S.out.drewN nq)
                          go_wp2_with fail
                          go_roundw
                          case rel => exact ⟨j + 1, _, by omega, by go_num, rfl, HF, HS⟩
                          case measure => simp [intOf]; omega
                        · rw [G.out] at e1
                          subst e1
                          obtain ⟨ba2, e3, -, c3⟩ := (HB.out.below S.out.bel) y (by rw [← HM.out]; omega)
                          injection e3 with e3
                          subst e3
                          obtain ⟨v, hv⟩ : ∃ z, z = ld b y := ⟨_, rfl⟩
                          change World.cell? _ _ = some (Value.int .i64 (ld b y)) at c3
                          rw [← hv] at c3
                          have HVV := Lib.hid hv
                          clear hv
                          have hy0 : decide ((y : Int) < 0) = false := decide_eq_false (by omega)
                          have hyM : (y : Int) < (M : Int) := by omega
                          have hyMn : y < M := by omega
                          by_cases h2 : z < v
                          · have hd3 : decide (z < v) = true := decide_eq_true h2
                            have HF := Lib.hid (bestZ_new HT1.out HH.out (Or.inr (by rw [G.out, Int.toNat_natCast, ← HVV.out, ← HZ.out]; exact h2)))
                            go_upto_region 24 with fail
                            go_quiet (fail)
                            have HS := Lib.hid (S.out.drewN nq)
                            go_wp2_with fail
                            go_roundw
                            case rel => exact ⟨j + 1, _, by omega, by go_num, rfl, HF, HS⟩
                            case measure => simp [intOf]; omega
                          · have hd3 : decide (z < v) = false := decide_eq_false h2
                            have HF := Lib.hid (bestZ_old HT1.out HH.out G.out (by rw [← HVV.out, ← HZ.out]; exact h2))
                            go_upto_region 24 with fail
                            go_quiet (fail)
                            have HS := Lib.hid (S.out.drewN nq)
                            go_wp2_with fail
                            go_roundw
                            case rel => exact ⟨j + 1, _, by omega, by go_num, rfl, HF, HS⟩
                            case measure => simp [intOf]; omega
                  · have hjM : j = M := by omega
                    have hltz2 : ¬ (j : Int) < (M : Int) := by omega
                    have HY := Lib.hid (show yM a b os k = Y by
                      have := G.out
                      rw [hjM, HM.out, HZX.out, HX.out] at this
                      exact this)
                    rcases bestZ_spec b (stM a b os k).1 zx j with ⟨e1, -⟩ | ⟨y, e1, e2, -, -⟩
                    · rw [G.out] at e1
                      subst e1
                      have HGD := Lib.hid S.out.ds.lt
                      generalize wr = wo at *
                      go_wp2_with fail
                      go_loopw [16, 17] (fun ov jv wj => ∃ i : Nat, i ≤ L ∧ jv = .int .i64 (i : Int) ∧ Hid (Own .i64 3 wj wo.heap.size ov (rfK (dnL a os (k + 1)) i)) ∧ Hid (RowKit.Below wo.heap.size wo wj)) (fun _ jv _ => L - (intOf jv).toNat)
                      case atStart => exact ⟨0, by omega, rfl, Lib.hid Own.nil, Lib.hid (RowKit.Below.refl _ _)⟩
                      case round =>
                        obtain ⟨i2, hi2, rfl, O, BB⟩ := hrel
                        have HDS := Lib.hid (S.out.ds.below BB.out HGD.out)
                        by_cases hlt3 : i2 < L
                        · have hltz3 : (i2 : Int) < (L : Int) := by omega
                          have cd := HDS.out.cell i2 (by rw [dnL_len, ← HL.out]; exact hlt3)
                          cases h1 : (dnL a os (k + 1)).getD i2 false with
                          | true =>
                            rw [h1] at cd
                            have HP := Lib.hid (rfK_yes h1)
                            have HLN := Lib.hid (show (rfK (dnL a os (k + 1)) i2).length + 1 ≤ 1000000000 by have := rfK_len (dnL a os (k + 1)) i2; omega)
                            clear h1
                            go_wp2_with (first | (at_builtin; refine wpList_appI _ rfl (.tmp 132) (.tmp 134) rfl wo.heap.size _ (rfK (dnL a os (k + 1)) i2) rfl (O.out.alloc _) (i2 : Int) wr rfl _ rfl 1 rfl HLN.out (le_allocW (w := wr) BB.out.size) ?_; intro v5 w5 A5; have HO5 := Lib.hid (show Own .i64 3 w5 wo.heap.size v5 (rfK (dnL a os (k + 1)) (i2 + 1)) by rw [HP.out]; exact A5.1); have HB5 := Lib.hid (A5.below BB.out BB.out.size O.out); clear A5))
                            go_roundw
                            case rel => exact ⟨i2 + 1, by omega, by go_num, HO5, HB5⟩
                            case measure => simp [intOf]; omega
                          | false =>
                            rw [h1] at cd
                            have HP := Lib.hid (rfK_no h1)
                            clear h1
                            go_wp2_with fail
                            go_roundw
                            case rel => exact ⟨i2 + 1, by omega, by go_num, Lib.hid (by rw [HP.out]; exact O.out), BB⟩
                            case measure => simp [intOf]; omega
                        · have hi3 : i2 = L := by omega
                          have hltz3 : ¬ (i2 : Int) < (L : Int) := by omega
                          go_wp2_with fail
                          go_ret3
                          refine ⟨os, _, _, [], refL a os k, 14, rfl, HO.out, Or.inr (Or.inr ⟨HVR.out, k, HKL.out, OK.out, HY.out, rfl, rfl, rfl⟩), Own.nil, ?_, S.out.bel.trans (BB.out.mono S.out.bel.size)⟩
                          have h := O.out
                          rw [hi3, HL.out, rfK_ref HO.out HKL.out] at h
                          exact h.base S.out.bel.size
                    · rw [G.out] at e1
                      subst e1
                      have HYY := Lib.hid HY.out
                      have hy0 : ¬ (y : Int) < 0 := by omega
                      have hyM : (y : Int) < (M : Int) := by omega
                      have hyM2 : y < M := by omega
                      have hkn1 := HKL.out
                      have HOK := Lib.hid (OK.out.succ (show yM a b os k ≠ -1 by rw [HY.out]; omega))
                      have HS2 := Lib.hid (S.out.step HL.out HX.out.symm HY.out)
                      have HMS2 := Lib.hid (msW_eq HO.out (show k + 1 ≤ os.length by omega) HS2.out.ds)
                      have ct := S.out.bs.cell y (by rw [(stM_len a b os k).1, ← HM.out]; exact hyM2)
                      have ft := S.out.bs.frozen y
                      have cg0 := S.out.lo.cell (by rw [(stM_len a b os k).2, HL.out]) x (by rw [(stM_len a b os k).2, ← HL.out]; exact hxL)
                      have fg0 := S.out.lo.frozen (by rw [(stM_len a b os k).2, HL.out]) x
                      have cg : (World.setCell _ ⟨t, y, none⟩ (.bool true)).cell? ⟨g, x, none⟩ = some (.int .i64 ((stM a b os k).2.getD x 0)) := (World.cell?_setCell_other _ _ _ _ (fun e => S.out.gt (congrArg Addr.block e).symm)).trans cg0
                      have fg : (World.setCell wr ⟨t, y, none⟩ (.bool true)).frozen? ⟨g, x, none⟩ = false := by rw [World.frozen?_setCell]; exact fg0
                      generalize (stM a b os k).2.getD x 0 = q1 at cg
                      generalize (stM a b os k).1.getD y false = q2 at ct
                      clear cg0 fg0 hkn1
                      go_wp2_with fail
                      go_roundw
                      case rel => exact ⟨k + 1, by omega, HOK, HS2⟩
                      case measure =>
                        have h1 := HMS2.out
                        have h2 := HMS.out
                        have h3 := HKL.out
                        omega
              · have hkn2 : k = n := by omega
                have eZ : Z = -1 := by
                  rw [← NE, hkn2, HN.out]
                  exact next_none HO.out
                subst eZ
                go_wp2_with fail
                go_ret3
                exact ⟨os, _, _, (stM a b os k).2, [], 0, rfl, HO.out, Or.inr (Or.inl ⟨HVR.out, by rw [← HN.out, ← hkn2]; exact OK.out, by rw [← HN.out, ← hkn2], rfl, rfl⟩), S.out.lo, Own.nil, S.out.bel⟩
  · have HVR := Lib.hid hv
    obtain ⟨ev, hev⟩ : ∃ z, z = valR a b := ⟨_, rfl⟩
    rw [← hev] at HV
    have HEV := Lib.hid hev
    have hne : (ev != 0) = true := by rw [hev]; simpa using hv
    rw [← hL] at HV ⊢
    rw [← hM] at HV ⊢
    clear ha hla hb hlb hv hL hM hos0 hev
    go_enter Try.func14, Try.ntmps14
    go_wp2_with fail
    refine HV.out.mono ?_
    rintro e w1 ⟨rfl, hw⟩
    subst hw
    clear HV
    go_wp2_with fail
    go_ret3
    exact ⟨os, _, _, [], [], ev, rfl, HO.out, Or.inl ⟨HVR.out, rfl, rfl, HEV.out⟩, Own.nil, Own.nil, Below.refl _ _⟩
end Go.Proofs.Ytknkgcphamhjlaa
