/-
  Stage 8: the walk of ReconcileExact.
-/
import Derived.Test.YtbdiilkdajadcaaDoorRRefs
import Derived.Test.YtbdiilkdajadcaaDoorMkPick
import Derived.Test.YtbdiilkdajadcaaDoorRMetW
import Derived.Test.YtbdiilkdajadcaaDoorRCheapW
set_option linter.unusedSimpArgs false
set_option linter.unusedVariables false
namespace Go.Proofs.YtbdiilkdajadcaaDoor
open Go.RowKit

theorem Own.lstM {base m : Nat} {W W' : World} {A : Option Addr} {n c : Nat} {l : List Int} (h : Own .i64 3 W base (.slice A n c) l) (hl : l.length ≤ 96) (hm : m < base) (k : Moves m W W') : Lst W' A n c l := by
  obtain ⟨A', c', e, R, hc, _⟩ := (h.moves k hm).slice
  injection e with e1 e2 e3
  subst e1; subst e3
  exact ⟨e2, hl, R, hc⟩
/-- One list of three. -/
def Elt (W : World) (b J : Nat) (AE : Option Addr) (ne cE : Nat) (es : List Int) : Prop := W.cell? ⟨b, J, none⟩ = some (.slice AE ne cE) ∧ ne = es.length ∧ Row .i64 W W.heap.size AE es ∧ es.length ≤ maxLen
theorem own_rowM {base m : Nat} {W W' : World} {A : Option Addr} {n c : Nat} {l : List Int} (h : Own .i64 3 W base (.slice A n c) l) (hm : m < base) (k : Moves m W W') : n = l.length ∧ Row .i64 W' W'.heap.size A l := by
  obtain ⟨A', c', e, R, hc, _⟩ := (h.moves k hm).slice
  injection e with e1 e2 e3
  subst e1; subst e3
  exact ⟨e2, R⟩
theorem own_store_other {W : World} {base base' g n c n' c' : Nat} {A : Option Addr} {l zs : List Int} (h : Own .i64 3 W base (.slice A n c) l) (h' : Own .i64 3 W base' (.slice (some ⟨g, 0, none⟩) n' c') zs) (hl : n' = zs.length) (hA : ∀ k, (Value.slice A n c).ownBlock = some k → k < base') (j : Nat) (p : Int) :
    Own .i64 3 (W.setCell ⟨g, j, none⟩ (.int .i64 p)) base (.slice A n c) l := by
  have hz : W.ownsRow base' 3 1 (.slice (some ⟨g, 0, none⟩) n' c') n' (zs.map (Value.int .i64)) := by
    have := h'; unfold Own at this; rwa [← hl] at this
  refine h.kept (World.ownsRow.stored hz j (.int .i64 p)).2 ?_
  cases e : (Value.slice A n c).ownBlock with
  | none => exact Or.inl rfl
  | some k => exact Or.inr (fun e' => by
      injection e' with e'
      have := hA k e
      have := (own_block h' (g := g) rfl).1
      omega)
set_option maxRecDepth 100000 in
set_option maxHeartbeats 25600000 in
theorem exact_walk (ts a b ed : List Int) (AT AA AB AD : Option Addr) (ct ca cb cd : Nat) (w : World) (hK : Knd w) (rt : Row .i64 w w.heap.size AT ts) (mt : ts.length ≤ maxLen) (wt : ∀ n ∈ ts, (Lit.int .i64 n).wf = true)
    (ra : Row .i64 w w.heap.size AA a) (ma : a.length ≤ 140737488355328) (pa : a.length ≤ ca) (rb : Row .i64 w w.heap.size AB b) (mb : b.length ≤ 140737488355328) (pb : b.length ≤ cb) (rd : Row .i64 w w.heap.size AD ed) (md : ed.length ≤ maxLen) :
    Calls Tryd.prog 4 #[.slice AT ts.length ct, .slice AA a.length ca, .slice AB b.length cb, .slice AD ed.length cd] w fun e w' => e = .returned (.bool true) ∧ Below w.heap.size w w' := by
  have HK := Lib.hid hK
  have K0 := Lib.hid (mk_row (T := 64) (c := ct) rt mt wt)
  have RA := Lib.hid (And.intro ra pa)
  have RB := Lib.hid (And.intro rb pb)
  obtain ⟨la, hla⟩ : ∃ n, n = a.length := ⟨_, rfl⟩
  obtain ⟨lb, hlb⟩ : ∃ n, n = b.length := ⟨_, rfl⟩
  obtain ⟨ld, hld⟩ : ∃ n, n = ed.length := ⟨_, rfl⟩
  have HLA := Lib.hid hla
  have HLB := Lib.hid hlb
  have RD := Lib.hid (And.intro rd (And.intro md hld))
  rw [← hla] at ma ⊢
  rw [← hlb] at mb ⊢
  rw [← hld] at md ⊢
  unfold maxLen at md
  clear hK rt mt wt ra pa rb pb hla hlb hld rd
  go_enter Tryd.func4, Tryd.ntmps4
  go_wp2_with fail
  refine (new_any AT ts.length ct _).mono ?_
  rintro e w1 ⟨rfl, e1⟩
  obtain ⟨m, hm⟩ : ∃ m, m = w.heap.size := ⟨_, rfl⟩
  have HM := Lib.hid hm
  have K1 := Lib.hid (show IsMk w1 m 0 by rw [e1, hm]; exact K0.out)
  have B1 := Lib.hid (show Below w.heap.size w w1 by rw [e1]; exact box1W _ _)
  rw [← hm]
  clear e1 K0 hm
  go_wp2_with fail
  go_loopw [10] (fun iv wr => ∃ (I M : Nat), iv = .int .i64 (I : Int) ∧ I ≤ 4 ∧ M ≤ 39 * I ∧ Hid (IsMk wr m M) ∧ Hid (Below w.heap.size w wr)) (fun iv _ => 4 - (intOf iv).toNat)
  case atStart => exact ⟨0, 0, rfl, by omega, by omega, K1, B1⟩
  case round =>
    clear K1 B1
    obtain ⟨I, M, rfl, hI, hM, K, B⟩ := hrel
    have HMM := Lib.hid hM
    by_cases hlt : I < 4
    · have hlti : (I : Int) < 4 := by omega
      have hM2 : M ≤ 200 := by omega
      have hmr : m < wr.heap.size := K.out.lt
      clear hM
      go_wp2_with fail
      refine (lists_any m M 12 _ K.out (by omega) (by omega)).mono ?_
      rintro e w2 ⟨vx, vy, xs, ys, rfl, OX, OY, hx, hy, k2, M2⟩
      have B2 := Lib.hid (Moves.below B.out M2 (Nat.le_of_eq HM.out.symm) B.out.size)
      have K2 := Lib.hid k2
      obtain ⟨A, c, rfl, -⟩ := OX.lst (by omega)
      obtain ⟨A', c', rfl, -⟩ := OY.lst (by omega)
      have LX := Lib.hid (show ∀ W, Moves m w2 W → Lst W A xs.length c xs from fun W k => OX.lstM (by omega) hmr k)
      have LY := Lib.hid (show ∀ W, Moves m w2 W → Lst W A' ys.length c' ys from fun W k => OY.lstM (by omega) hmr k)
      generalize xs.length = nx at *
      generalize ys.length = ny at *
      clear OX OY k2 M2 hx hy K B
      generalize wr.heap.size = br at *
      have HB60 := Lib.hid (show la + lb ≤ 60 → (∀ W, Moves m w2 W → Lst W AA la ca a) ∧ (∀ W, Moves m w2 W → Lst W AB lb cb b) from fun h => ⟨fun W k => ⟨HLA.out, by rw [← HLA.out]; omega, RA.out.1.below (Moves.below B2.out k (Nat.le_of_eq HM.out.symm) B2.out.size), RA.out.2⟩, fun W k => ⟨HLB.out, by rw [← HLB.out]; omega, RB.out.1.below (Moves.below B2.out k (Nat.le_of_eq HM.out.symm) B2.out.size), RB.out.2⟩⟩)
      have wab : IntKind.i64.wrap ((la : Int) + (lb : Int)) = (la : Int) + (lb : Int) := IntWalk.i64_in _ (by omega)
      by_cases h1 : I = 3
      · have h1i : ((I : Int) == 3) = true := by simp [h1]
        have h1j : (I : Int) = 3 := by omega
        by_cases h60 : la + lb ≤ 60
        · have h60i : (la : Int) + (lb : Int) ≤ 60 := by omega
          clear LX LY
          have LX := Lib.hid (HB60.out h60).1
          have LY := Lib.hid (HB60.out h60).2
          clear HB60
          go_wp2_with fail
          have KN := Lib.hid (show ∀ W, Moves m w2 W → Knd W from fun W k => HK.out.below' (Moves.below B2.out k (Nat.le_of_eq HM.out.symm) B2.out.size))
          have hm2 : m < w2.heap.size := K2.out.lt
          have T2 := Lib.hid (Moves.refl m w2)
          refine (ali_sm (KN.out _ T2.out) (LX.out _ T2.out) (LY.out _ T2.out)).mono ?_
          rintro e w3 ⟨⟨v3, rfl, O3⟩, B3⟩
          have T3 := Lib.hid (T2.out.trans (Moves.of_below B3))
          have K3 := Lib.hid (K2.out.stays' B3)
          have HN := Lib.hid (scr_sml (LX.out _ T2.out) (LY.out _ T2.out))
          have HNX := Lib.hid (LX.out _ T2.out).sml
          obtain ⟨A3, c3, rfl, R3, -⟩ := O3.slice
          have HR3 := Lib.hid R3
          clear R3 O3 B3 T2
          go_wp2_with fail
          refine (rali_sm (LX.out _ T3.out) (LY.out _ T3.out)).mono ?_
          rintro e w4 ⟨⟨v4, rfl, O4⟩, B4⟩
          have T4 := Lib.hid (T3.out.trans (Moves.of_below B4))
          have K4 := Lib.hid (K3.out.stays' B4)
          have HR4 := Lib.hid (HR3.out.below B4)
          obtain ⟨A4, c4, rfl, -⟩ := O4.slice
          have hb3 : w2.heap.size ≤ w3.heap.size := T3.out.size
          generalize w3.heap.size = b3 at O4 hb3
          have HO4 := Lib.hid O4
          clear O4 B4 T3 HR3 K3
          go_wp2_with fail
          refine (pot_sm (KN.out _ T4.out) (LX.out _ T4.out) (LY.out _ T4.out)).mono ?_
          rintro e w5 ⟨⟨g5, k5, c5, rfl, P5⟩, B5⟩
          have T5 := Lib.hid (T4.out.trans (Moves.of_below B5))
          have K5 := Lib.hid (K4.out.stays' B5)
          have HR5 := Lib.hid (HR4.out.below B5)
          have HO5 := Lib.hid (HO4.out.below B5)
          have HP5 := Lib.hid P5
          clear P5 B5 T4 HR4 HO4 K4
          go_wp2_with fail
          refine (rpot_sm (LX.out _ T5.out) (LY.out _ T5.out)).mono ?_
          rintro e w6 ⟨⟨g6, k6, c6, rfl, P6⟩, B6⟩
          have T6 := Lib.hid (T5.out.trans (Moves.of_below B6))
          have K6 := Lib.hid (K5.out.stays' B6)
          have HR6 := Lib.hid (HR5.out.below B6)
          have HO6 := Lib.hid (HO5.out.below B6)
          have HI6 := Lib.hid (ints_same2 (c := c3) (c' := c4) HR6.out (own_rowM HO6.out (Nat.lt_of_lt_of_le hm2 hb3) (Moves.refl m w6)).2 HN.out)
          have HL6 := Lib.hid (fun d => pots_same ((HP5.out.below B6).below (⟨rfl, rfl, rfl, Nat.le_refl _, fun _ _ => rfl⟩ : Below w6.heap.size w6 (w6.drewN d))) (P6.below (⟨rfl, rfl, rfl, Nat.le_refl _, fun _ _ => rfl⟩ : Below w6.heap.size w6 (w6.drewN d))) HNX.out)
          clear P6 B6 T5 HR5 HO5 HP5 HR6 K5
          go_wp2_with fail
          refine HI6.out.mono ?_
          rintro e w7 ⟨rfl, d1, rfl⟩
          go_wp2_with fail
          refine (HL6.out d1).mono ?_
          rintro e w7 ⟨rfl, d2, rfl⟩
          have T7 := Lib.hid ((T6.out.drewN (n := d1)).drewN (n := d2))
          have K7 := Lib.hid ((K6.out.drewN (n := d1)).drewN (n := d2))
          have HO7 := Lib.hid ((HO6.out.drewN d1).drewN d2)
          generalize ((w6.drewN d1).drewN d2) = w7 at T7 HO7 K7 ⊢
          generalize scr _ _ = ms at HO7 HN ⊢
          obtain ⟨L, hL⟩ : ∃ L, L = ms.length := ⟨_, rfl⟩
          have HL := Lib.hid hL
          rw [← hL] at HO7 HN ⊢
          clear HI6 HL6 HO6 T6 hL K6 HNX
          have hb7 : m < w7.heap.size := K7.out.lt
          have HB7 := Lib.hid hb7
          have HEM := Lib.hid (own_emptyR (Nat.le_refl w7.heap.size))
          have HBE := Lib.hid (box1W w7 (.cells #[] 3))
          have HLN := Lib.hid (show ([] : List Int).length + ms.length ≤ 1000000 by rw [List.length_nil, ← HL.out]; have := HN.out; omega)
          have hLs : L ≤ 1000000 := HN.out
          by_cases hL0 : 0 < L
          · have hL1 : (0 : Int) < (L : Int) := by omega
            have HT7 := Lib.hid T7.out.size
            go_wp2_with (first
              | (at_builtin; refine wpList_appL _ rfl (.tmp 104) (.tmp 105) rfl w7.heap.size _ 0 [] rfl rfl HEM.out b3 A4 L c4 ms rfl (HO7.out.alloc _) HL.out HLN.out HBE.out.size ?_; intro v8 w8 O8' G8; have B8 := HBE.out.grown G8 HBE.out.size (fun k e => (own_block HEM.out e).1); have O8 := Lib.hid (show Own .i64 3 w8 w7.heap.size v8 ms from O8'); have K8 := Lib.hid (K7.out.stays' B8); have T8 := Lib.hid (T7.out.trans (Moves.of_below B8)); have HO8 := Lib.hid (HO7.out.below B8); have HA := Lib.hid (fun g (e : (Value.slice A4 L c4).ownBlock = some g) => (own_block HO7.out e).2); obtain ⟨A8, c8, rfl, -⟩ := O8.out.slice; rw [← HL.out] at O8 ⊢; clear O8' G8 B8))
            refine (next_any m (M + 1 + 3 * 12) (L : Int) _ K8.out (by omega) (by omega) (by omega)).mono ?_
            rintro e w9 ⟨q, rfl, q1, q2, k9, m9⟩
            obtain ⟨Q, rfl⟩ := Int.eq_ofNat_of_zero_le q1
            have hQ : Q < L := by omega
            have O9 := Lib.hid (O8.out.moves m9 HB7.out)
            have K9 := Lib.hid k9
            have T9 := Lib.hid (T8.out.trans m9)
            have HO9 := Lib.hid (HO8.out.moves m9 (Nat.lt_of_lt_of_le hm2 hb3))
            obtain ⟨g8, rfl, -⟩ := O9.out.cellR (i := Q) (by rw [← HL.out]; exact hQ)
            clear k9 m9 O8 K8 T8 HO8 q2
            go_wp2_with fail
            refine (pick_any m (M + 1 + 3 * 12 + 1) (fun z => True) _ 7 7 _ (K9.out.alloc _) (by omega) (by omega) (by omega) (by have := K9.out.lt; omega) (by simp) (by exact new_pick _ _ (fun z => True) [-1, 0, 1, 2, 3, 4, 5] (fun _ _ => trivial) _ rfl)).mono ?_
            rintro e w10 ⟨p, rfl, -, k10, m10⟩
            have O10 := Lib.hid ((O9.out.alloc _).moves m10 HB7.out)
            have K10 := Lib.hid k10
            have T10 := Lib.hid ((T9.out.alloc _).trans m10)
            have HO10 := Lib.hid ((HO9.out.alloc _).moves m10 (Nat.lt_of_lt_of_le hm2 hb3))
            have c10 := O10.out.cell HL.out Q (by rw [← HL.out]; exact hQ)
            have f10 := O10.out.frozen HL.out Q
            have hq0 : (0 : Int) ≤ (Q : Int) := by omega
            have hqi : (Q : Int) < (L : Int) := by omega
            have hg8 := (own_block O10.out (g := g8) rfl)
            have O11 := Lib.hid (O10.out.store HL.out Q p)
            have K11 := Lib.hid (K10.out.setCell (p := ⟨g8, Q, none⟩) (Nat.lt_of_lt_of_le HB7.out hg8.1) (.int .i64 p))
            have T11 := Lib.hid (T10.out.setCell (p := ⟨g8, Q, none⟩) (Or.inr (Nat.le_trans HT7.out hg8.1)) (.int .i64 p))
            have HO11 := Lib.hid (own_store_other HO10.out O10.out HL.out HA.out Q p)
            have HL2 := Lib.hid (show L = (ms.set Q p).length by rw [List.length_set]; exact HL.out)
            generalize ms.set Q p = ms2 at O11 HL2
            clear k10 m10 O9 K9 T9 HO9
            go_wp2_with fail
            clear c10 f10 O10 K10 T10 HO10
            have HSZ : (w10.setCell ⟨g8, Q, none⟩ (.int .i64 p)).heap.size = w10.heap.size := by simp
            generalize w10.setCell _ _ = w11 at O11 K11 T11 HO11 HSZ ⊢
            rw [← HSZ]
            have HEL := Lib.hid (show ∀ J, J < 3 → ∃ AE cE es, ∀ W, Moves m (w11.alloc (.cells #[.slice A4 L c4, .slice (some ⟨g8, 0, none⟩) L c8, .slice AD ld cd] 22)) W → W.cell? ⟨w11.heap.size, J, none⟩ = some (.slice AE es.length cE) ∧ Row .i64 W W.heap.size AE es ∧ es.length ≤ maxLen from fun J hJ => by
              have hlt : m < w11.heap.size := K11.out.lt
              rcases (by omega : J = 0 ∨ J = 1 ∨ J = 2) with rfl | rfl | rfl
              · refine ⟨A4, c4, ms, fun W k => ⟨?_, (own_rowM (HO11.out.alloc _) (Nat.lt_of_lt_of_le hm2 hb3) k).2, by have := HN.out; rw [← HL.out]; unfold maxLen; omega⟩⟩
                rw [← HL.out]
                exact (k.cell (p := ⟨w11.heap.size, 0, none⟩) (by simp) (by show w11.heap.size ≠ m; omega)).trans (cell_new _ _ _ 0)
              · refine ⟨some ⟨g8, 0, none⟩, c8, ms2, fun W k => ⟨?_, (own_rowM (O11.out.alloc _) HB7.out k).2, by have := HN.out; rw [← HL2.out]; unfold maxLen; omega⟩⟩
                rw [← HL2.out]
                exact (k.cell (p := ⟨w11.heap.size, 1, none⟩) (by simp) (by show w11.heap.size ≠ m; omega)).trans (cell_new _ _ _ 1)
              · refine ⟨AD, cd, ed, fun W k => ⟨?_, RD.out.1.below (Moves.below B2.out (((T11.out.alloc _).trans k)) (Nat.le_of_eq HM.out.symm) B2.out.size), RD.out.2.1⟩⟩
                rw [← RD.out.2.2]
                exact (k.cell (p := ⟨w11.heap.size, 2, none⟩) (by simp) (by show w11.heap.size ≠ m; omega)).trans (cell_new _ _ _ 2))
            have K12 := Lib.hid (K11.out.alloc (.cells #[.slice A4 L c4, .slice (some ⟨g8, 0, none⟩) L c8, .slice AD ld cd] 22))
            have T12 := Lib.hid (T11.out.alloc (.cells #[.slice A4 L c4, .slice (some ⟨g8, 0, none⟩) L c8, .slice AD ld cd] 22))
            generalize w11.heap.size = bl at HEL ⊢
            generalize w11.alloc _ = w12 at HEL K12 T12 ⊢
            clear O11 K11 T11 HO11
            go_loopw [124] (fun i wx => ∃ J : Nat, i = .int .i64 (J : Int) ∧ J ≤ 3 ∧ Hid (IsMk wx m (M + 1 + 3 * 12 + 1 + 1)) ∧ Hid (Moves m w12 wx)) (fun i _ => 3 - (intOf i).toNat)
            case atStart => exact ⟨0, rfl, by omega, K12, Lib.hid (Moves.refl m w12)⟩
            case round =>
              clear K12
              obtain ⟨J, rfl, hJ, KJ, MJ⟩ := hrel
              by_cases hJ3 : J < 3
              · have hJi : (J : Int) < 3 := by omega
                have hJ0 : (0 : Int) ≤ (J : Int) := by omega
                obtain ⟨AE, cE, es, hE⟩ := HEL.out J hJ3
                have cel := (hE _ MJ.out).1
                have HE := Lib.hid (hE _ MJ.out).2
                have TX := Lib.hid (T12.out.trans MJ.out)
                clear hE
                go_wp2_with fail
                refine (cos_lg (KN.out _ TX.out) (LX.out _ TX.out) (LY.out _ TX.out) HE.out.1 HE.out.2).mono ?_
                rintro e w13 ⟨rfl, B13⟩
                have TX2 := Lib.hid (TX.out.trans (Moves.of_below B13))
                have KX := Lib.hid (KJ.out.stays' B13)
                have MX := Lib.hid (MJ.out.trans (Moves.of_below B13))
                have HE2 := Lib.hid (And.intro (HE.out.1.below B13) HE.out.2)
                clear B13 TX KJ MJ HE cel
                go_wp2_with fail
                refine (rcos_lg (LX.out _ TX2.out) (LY.out _ TX2.out) HE2.out.1 HE2.out.2).mono ?_
                rintro e w14 ⟨rfl, B14⟩
                have KX2 := Lib.hid (KX.out.stays' B14)
                have MX2 := Lib.hid (MX.out.trans (Moves.of_below B14))
                clear B14 TX2 KX MX HE2
                generalize cosR _ _ _ = rr
                obtain ⟨r1, r2⟩ := rr
                go_wp2_with fail
                go_roundw
                case rel => exact ⟨J + 1, by go_num, by omega, KX2, MX2⟩
                case measure => simp [intOf] <;> omega
              · obtain rfl : J = 3 := by omega
                have hJi : ¬ ((3 : Nat) : Int) < 3 := by decide
                have BF := Lib.hid (Moves.below B2.out (T12.out.trans MJ.out) (Nat.le_of_eq HM.out.symm) B2.out.size)
                clear MJ T12
                go_wp2_with fail
                go_roundw
                case rel => exact ⟨I + 1, M + 1 + 3 * 12 + 1 + 1, by go_num, by omega, by have := HMM.out; omega, KJ, BF⟩
                case measure => simp [intOf] <;> omega
          · have hL1 : ¬ (0 : Int) < (L : Int) := by omega
            have HT7 := Lib.hid T7.out.size
            go_wp2_with (first
              | (at_builtin; refine wpList_appL _ rfl (.tmp 104) (.tmp 105) rfl w7.heap.size _ 0 [] rfl rfl HEM.out b3 A4 L c4 ms rfl (HO7.out.alloc _) HL.out HLN.out HBE.out.size ?_; intro v8 w8 O8' G8; have B8 := HBE.out.grown G8 HBE.out.size (fun k e => (own_block HEM.out e).1); have O8 := Lib.hid (show Own .i64 3 w8 w7.heap.size v8 ms from O8'); have K8 := Lib.hid (K7.out.stays' B8); have T8 := Lib.hid (T7.out.trans (Moves.of_below B8)); have HO8 := Lib.hid (HO7.out.below B8); have HA := Lib.hid (fun g (e : (Value.slice A4 L c4).ownBlock = some g) => (own_block HO7.out e).2); obtain ⟨A8, c8, rfl, -⟩ := O8.out.slice; rw [← HL.out] at O8 ⊢; clear O8' G8 B8))
            have O11 := Lib.hid O8.out
            have K11 := Lib.hid (K8.out.more (show M + 1 + 3 * 12 ≤ M + 1 + 3 * 12 + 1 + 1 by omega))
            have T11 := Lib.hid T8.out
            have HO11 := Lib.hid HO8.out
            have HL2 := Lib.hid HL.out
            clear O8 K8 T8 HO8
            generalize w8 = w11 at O11 K11 T11 HO11 ⊢
            have HEL := Lib.hid (show ∀ J, J < 3 → ∃ AE cE es, ∀ W, Moves m (w11.alloc (.cells #[.slice A4 L c4, .slice A8 L c8, .slice AD ld cd] 22)) W → W.cell? ⟨w11.heap.size, J, none⟩ = some (.slice AE es.length cE) ∧ Row .i64 W W.heap.size AE es ∧ es.length ≤ maxLen from fun J hJ => by
              have hlt : m < w11.heap.size := K11.out.lt
              rcases (by omega : J = 0 ∨ J = 1 ∨ J = 2) with rfl | rfl | rfl
              · refine ⟨A4, c4, ms, fun W k => ⟨?_, (own_rowM (HO11.out.alloc _) (Nat.lt_of_lt_of_le hm2 hb3) k).2, by have := HN.out; rw [← HL.out]; unfold maxLen; omega⟩⟩
                rw [← HL.out]
                exact (k.cell (p := ⟨w11.heap.size, 0, none⟩) (by simp) (by show w11.heap.size ≠ m; omega)).trans (cell_new _ _ _ 0)
              · refine ⟨A8, c8, ms, fun W k => ⟨?_, (own_rowM (O11.out.alloc _) HB7.out k).2, by have := HN.out; rw [← HL2.out]; unfold maxLen; omega⟩⟩
                rw [← HL2.out]
                exact (k.cell (p := ⟨w11.heap.size, 1, none⟩) (by simp) (by show w11.heap.size ≠ m; omega)).trans (cell_new _ _ _ 1)
              · refine ⟨AD, cd, ed, fun W k => ⟨?_, RD.out.1.below (Moves.below B2.out (((T11.out.alloc _).trans k)) (Nat.le_of_eq HM.out.symm) B2.out.size), RD.out.2.1⟩⟩
                rw [← RD.out.2.2]
                exact (k.cell (p := ⟨w11.heap.size, 2, none⟩) (by simp) (by show w11.heap.size ≠ m; omega)).trans (cell_new _ _ _ 2))
            have K12 := Lib.hid (K11.out.alloc (.cells #[.slice A4 L c4, .slice A8 L c8, .slice AD ld cd] 22))
            have T12 := Lib.hid (T11.out.alloc (.cells #[.slice A4 L c4, .slice A8 L c8, .slice AD ld cd] 22))
            generalize w11.heap.size = bl at HEL ⊢
            generalize w11.alloc _ = w12 at HEL K12 T12 ⊢
            clear O11 K11 T11 HO11
            go_loopw [124] (fun i wx => ∃ J : Nat, i = .int .i64 (J : Int) ∧ J ≤ 3 ∧ Hid (IsMk wx m (M + 1 + 3 * 12 + 1 + 1)) ∧ Hid (Moves m w12 wx)) (fun i _ => 3 - (intOf i).toNat)
            case atStart => exact ⟨0, rfl, by omega, K12, Lib.hid (Moves.refl m w12)⟩
            case round =>
              clear K12
              obtain ⟨J, rfl, hJ, KJ, MJ⟩ := hrel
              by_cases hJ3 : J < 3
              · have hJi : (J : Int) < 3 := by omega
                have hJ0 : (0 : Int) ≤ (J : Int) := by omega
                obtain ⟨AE, cE, es, hE⟩ := HEL.out J hJ3
                have cel := (hE _ MJ.out).1
                have HE := Lib.hid (hE _ MJ.out).2
                have TX := Lib.hid (T12.out.trans MJ.out)
                clear hE
                go_wp2_with fail
                refine (cos_lg (KN.out _ TX.out) (LX.out _ TX.out) (LY.out _ TX.out) HE.out.1 HE.out.2).mono ?_
                rintro e w13 ⟨rfl, B13⟩
                have TX2 := Lib.hid (TX.out.trans (Moves.of_below B13))
                have KX := Lib.hid (KJ.out.stays' B13)
                have MX := Lib.hid (MJ.out.trans (Moves.of_below B13))
                have HE2 := Lib.hid (And.intro (HE.out.1.below B13) HE.out.2)
                clear B13 TX KJ MJ HE cel
                go_wp2_with fail
                refine (rcos_lg (LX.out _ TX2.out) (LY.out _ TX2.out) HE2.out.1 HE2.out.2).mono ?_
                rintro e w14 ⟨rfl, B14⟩
                have KX2 := Lib.hid (KX.out.stays' B14)
                have MX2 := Lib.hid (MX.out.trans (Moves.of_below B14))
                clear B14 TX2 KX MX HE2
                generalize cosR _ _ _ = rr
                obtain ⟨r1, r2⟩ := rr
                go_wp2_with fail
                go_roundw
                case rel => exact ⟨J + 1, by go_num, by omega, KX2, MX2⟩
                case measure => simp [intOf] <;> omega
              · obtain rfl : J = 3 := by omega
                have hJi : ¬ ((3 : Nat) : Int) < 3 := by decide
                have BF := Lib.hid (Moves.below B2.out (T12.out.trans MJ.out) (Nat.le_of_eq HM.out.symm) B2.out.size)
                clear MJ T12
                go_wp2_with fail
                go_roundw
                case rel => exact ⟨I + 1, M + 1 + 3 * 12 + 1 + 1, by go_num, by omega, by have := HMM.out; omega, KJ, BF⟩
                case measure => simp [intOf] <;> omega
        · have h60i : ¬ (la : Int) + (lb : Int) ≤ 60 := by omega
          clear HB60
          go_wp2_with fail
          have KN := Lib.hid (show ∀ W, Moves m w2 W → Knd W from fun W k => HK.out.below' (Moves.below B2.out k (Nat.le_of_eq HM.out.symm) B2.out.size))
          have hm2 : m < w2.heap.size := K2.out.lt
          have T2 := Lib.hid (Moves.refl m w2)
          refine (ali_sm (KN.out _ T2.out) (LX.out _ T2.out) (LY.out _ T2.out)).mono ?_
          rintro e w3 ⟨⟨v3, rfl, O3⟩, B3⟩
          have T3 := Lib.hid (T2.out.trans (Moves.of_below B3))
          have K3 := Lib.hid (K2.out.stays' B3)
          have HN := Lib.hid (scr_sml (LX.out _ T2.out) (LY.out _ T2.out))
          have HNX := Lib.hid (LX.out _ T2.out).sml
          obtain ⟨A3, c3, rfl, R3, -⟩ := O3.slice
          have HR3 := Lib.hid R3
          clear R3 O3 B3 T2
          go_wp2_with fail
          refine (rali_sm (LX.out _ T3.out) (LY.out _ T3.out)).mono ?_
          rintro e w4 ⟨⟨v4, rfl, O4⟩, B4⟩
          have T4 := Lib.hid (T3.out.trans (Moves.of_below B4))
          have K4 := Lib.hid (K3.out.stays' B4)
          have HR4 := Lib.hid (HR3.out.below B4)
          obtain ⟨A4, c4, rfl, -⟩ := O4.slice
          have hb3 : w2.heap.size ≤ w3.heap.size := T3.out.size
          generalize w3.heap.size = b3 at O4 hb3
          have HO4 := Lib.hid O4
          clear O4 B4 T3 HR3 K3
          go_wp2_with fail
          refine (pot_sm (KN.out _ T4.out) (LX.out _ T4.out) (LY.out _ T4.out)).mono ?_
          rintro e w5 ⟨⟨g5, k5, c5, rfl, P5⟩, B5⟩
          have T5 := Lib.hid (T4.out.trans (Moves.of_below B5))
          have K5 := Lib.hid (K4.out.stays' B5)
          have HR5 := Lib.hid (HR4.out.below B5)
          have HO5 := Lib.hid (HO4.out.below B5)
          have HP5 := Lib.hid P5
          clear P5 B5 T4 HR4 HO4 K4
          go_wp2_with fail
          refine (rpot_sm (LX.out _ T5.out) (LY.out _ T5.out)).mono ?_
          rintro e w6 ⟨⟨g6, k6, c6, rfl, P6⟩, B6⟩
          have T6 := Lib.hid (T5.out.trans (Moves.of_below B6))
          have K6 := Lib.hid (K5.out.stays' B6)
          have HR6 := Lib.hid (HR5.out.below B6)
          have HO6 := Lib.hid (HO5.out.below B6)
          have HI6 := Lib.hid (ints_same2 (c := c3) (c' := c4) HR6.out (own_rowM HO6.out (Nat.lt_of_lt_of_le hm2 hb3) (Moves.refl m w6)).2 HN.out)
          have HL6 := Lib.hid (fun d => pots_same ((HP5.out.below B6).below (⟨rfl, rfl, rfl, Nat.le_refl _, fun _ _ => rfl⟩ : Below w6.heap.size w6 (w6.drewN d))) (P6.below (⟨rfl, rfl, rfl, Nat.le_refl _, fun _ _ => rfl⟩ : Below w6.heap.size w6 (w6.drewN d))) HNX.out)
          clear P6 B6 T5 HR5 HO5 HP5 HR6 K5
          go_wp2_with fail
          refine HI6.out.mono ?_
          rintro e w7 ⟨rfl, d1, rfl⟩
          go_wp2_with fail
          refine (HL6.out d1).mono ?_
          rintro e w7 ⟨rfl, d2, rfl⟩
          have T7 := Lib.hid ((T6.out.drewN (n := d1)).drewN (n := d2))
          have K7 := Lib.hid ((K6.out.drewN (n := d1)).drewN (n := d2))
          have HO7 := Lib.hid ((HO6.out.drewN d1).drewN d2)
          generalize ((w6.drewN d1).drewN d2) = w7 at T7 HO7 K7 ⊢
          generalize scr _ _ = ms at HO7 HN ⊢
          obtain ⟨L, hL⟩ : ∃ L, L = ms.length := ⟨_, rfl⟩
          have HL := Lib.hid hL
          rw [← hL] at HO7 HN ⊢
          clear HI6 HL6 HO6 T6 hL K6 HNX
          have hb7 : m < w7.heap.size := K7.out.lt
          have HB7 := Lib.hid hb7
          have HEM := Lib.hid (own_emptyR (Nat.le_refl w7.heap.size))
          have HBE := Lib.hid (box1W w7 (.cells #[] 3))
          have HLN := Lib.hid (show ([] : List Int).length + ms.length ≤ 1000000 by rw [List.length_nil, ← HL.out]; have := HN.out; omega)
          have hLs : L ≤ 1000000 := HN.out
          by_cases hL0 : 0 < L
          · have hL1 : (0 : Int) < (L : Int) := by omega
            have HT7 := Lib.hid T7.out.size
            go_wp2_with (first
              | (at_builtin; refine wpList_appL _ rfl (.tmp 104) (.tmp 105) rfl w7.heap.size _ 0 [] rfl rfl HEM.out b3 A4 L c4 ms rfl (HO7.out.alloc _) HL.out HLN.out HBE.out.size ?_; intro v8 w8 O8' G8; have B8 := HBE.out.grown G8 HBE.out.size (fun k e => (own_block HEM.out e).1); have O8 := Lib.hid (show Own .i64 3 w8 w7.heap.size v8 ms from O8'); have K8 := Lib.hid (K7.out.stays' B8); have T8 := Lib.hid (T7.out.trans (Moves.of_below B8)); have HO8 := Lib.hid (HO7.out.below B8); have HA := Lib.hid (fun g (e : (Value.slice A4 L c4).ownBlock = some g) => (own_block HO7.out e).2); obtain ⟨A8, c8, rfl, -⟩ := O8.out.slice; rw [← HL.out] at O8 ⊢; clear O8' G8 B8))
            refine (next_any m (M + 1 + 3 * 12) (L : Int) _ K8.out (by omega) (by omega) (by omega)).mono ?_
            rintro e w9 ⟨q, rfl, q1, q2, k9, m9⟩
            obtain ⟨Q, rfl⟩ := Int.eq_ofNat_of_zero_le q1
            have hQ : Q < L := by omega
            have O9 := Lib.hid (O8.out.moves m9 HB7.out)
            have K9 := Lib.hid k9
            have T9 := Lib.hid (T8.out.trans m9)
            have HO9 := Lib.hid (HO8.out.moves m9 (Nat.lt_of_lt_of_le hm2 hb3))
            obtain ⟨g8, rfl, -⟩ := O9.out.cellR (i := Q) (by rw [← HL.out]; exact hQ)
            clear k9 m9 O8 K8 T8 HO8 q2
            go_wp2_with fail
            refine (pick_any m (M + 1 + 3 * 12 + 1) (fun z => True) _ 7 7 _ (K9.out.alloc _) (by omega) (by omega) (by omega) (by have := K9.out.lt; omega) (by simp) (by exact new_pick _ _ (fun z => True) [-1, 0, 1, 2, 3, 4, 5] (fun _ _ => trivial) _ rfl)).mono ?_
            rintro e w10 ⟨p, rfl, -, k10, m10⟩
            have O10 := Lib.hid ((O9.out.alloc _).moves m10 HB7.out)
            have K10 := Lib.hid k10
            have T10 := Lib.hid ((T9.out.alloc _).trans m10)
            have HO10 := Lib.hid ((HO9.out.alloc _).moves m10 (Nat.lt_of_lt_of_le hm2 hb3))
            have c10 := O10.out.cell HL.out Q (by rw [← HL.out]; exact hQ)
            have f10 := O10.out.frozen HL.out Q
            have hq0 : (0 : Int) ≤ (Q : Int) := by omega
            have hqi : (Q : Int) < (L : Int) := by omega
            have hg8 := (own_block O10.out (g := g8) rfl)
            have O11 := Lib.hid (O10.out.store HL.out Q p)
            have K11 := Lib.hid (K10.out.setCell (p := ⟨g8, Q, none⟩) (Nat.lt_of_lt_of_le HB7.out hg8.1) (.int .i64 p))
            have T11 := Lib.hid (T10.out.setCell (p := ⟨g8, Q, none⟩) (Or.inr (Nat.le_trans HT7.out hg8.1)) (.int .i64 p))
            have HO11 := Lib.hid (own_store_other HO10.out O10.out HL.out HA.out Q p)
            have HL2 := Lib.hid (show L = (ms.set Q p).length by rw [List.length_set]; exact HL.out)
            generalize ms.set Q p = ms2 at O11 HL2
            clear k10 m10 O9 K9 T9 HO9
            go_wp2_with fail
            clear c10 f10 O10 K10 T10 HO10
            have HSZ : (w10.setCell ⟨g8, Q, none⟩ (.int .i64 p)).heap.size = w10.heap.size := by simp
            generalize w10.setCell _ _ = w11 at O11 K11 T11 HO11 HSZ ⊢
            rw [← HSZ]
            have HEL := Lib.hid (show ∀ J, J < 3 → ∃ AE cE es, ∀ W, Moves m (w11.alloc (.cells #[.slice A4 L c4, .slice (some ⟨g8, 0, none⟩) L c8, .slice AD ld cd] 22)) W → W.cell? ⟨w11.heap.size, J, none⟩ = some (.slice AE es.length cE) ∧ Row .i64 W W.heap.size AE es ∧ es.length ≤ maxLen from fun J hJ => by
              have hlt : m < w11.heap.size := K11.out.lt
              rcases (by omega : J = 0 ∨ J = 1 ∨ J = 2) with rfl | rfl | rfl
              · refine ⟨A4, c4, ms, fun W k => ⟨?_, (own_rowM (HO11.out.alloc _) (Nat.lt_of_lt_of_le hm2 hb3) k).2, by have := HN.out; rw [← HL.out]; unfold maxLen; omega⟩⟩
                rw [← HL.out]
                exact (k.cell (p := ⟨w11.heap.size, 0, none⟩) (by simp) (by show w11.heap.size ≠ m; omega)).trans (cell_new _ _ _ 0)
              · refine ⟨some ⟨g8, 0, none⟩, c8, ms2, fun W k => ⟨?_, (own_rowM (O11.out.alloc _) HB7.out k).2, by have := HN.out; rw [← HL2.out]; unfold maxLen; omega⟩⟩
                rw [← HL2.out]
                exact (k.cell (p := ⟨w11.heap.size, 1, none⟩) (by simp) (by show w11.heap.size ≠ m; omega)).trans (cell_new _ _ _ 1)
              · refine ⟨AD, cd, ed, fun W k => ⟨?_, RD.out.1.below (Moves.below B2.out (((T11.out.alloc _).trans k)) (Nat.le_of_eq HM.out.symm) B2.out.size), RD.out.2.1⟩⟩
                rw [← RD.out.2.2]
                exact (k.cell (p := ⟨w11.heap.size, 2, none⟩) (by simp) (by show w11.heap.size ≠ m; omega)).trans (cell_new _ _ _ 2))
            have K12 := Lib.hid (K11.out.alloc (.cells #[.slice A4 L c4, .slice (some ⟨g8, 0, none⟩) L c8, .slice AD ld cd] 22))
            have T12 := Lib.hid (T11.out.alloc (.cells #[.slice A4 L c4, .slice (some ⟨g8, 0, none⟩) L c8, .slice AD ld cd] 22))
            generalize w11.heap.size = bl at HEL ⊢
            generalize w11.alloc _ = w12 at HEL K12 T12 ⊢
            clear O11 K11 T11 HO11
            go_loopw [124] (fun i wx => ∃ J : Nat, i = .int .i64 (J : Int) ∧ J ≤ 3 ∧ Hid (IsMk wx m (M + 1 + 3 * 12 + 1 + 1)) ∧ Hid (Moves m w12 wx)) (fun i _ => 3 - (intOf i).toNat)
            case atStart => exact ⟨0, rfl, by omega, K12, Lib.hid (Moves.refl m w12)⟩
            case round =>
              clear K12
              obtain ⟨J, rfl, hJ, KJ, MJ⟩ := hrel
              by_cases hJ3 : J < 3
              · have hJi : (J : Int) < 3 := by omega
                have hJ0 : (0 : Int) ≤ (J : Int) := by omega
                obtain ⟨AE, cE, es, hE⟩ := HEL.out J hJ3
                have cel := (hE _ MJ.out).1
                have HE := Lib.hid (hE _ MJ.out).2
                have TX := Lib.hid (T12.out.trans MJ.out)
                clear hE
                go_wp2_with fail
                refine (cos_lg (KN.out _ TX.out) (LX.out _ TX.out) (LY.out _ TX.out) HE.out.1 HE.out.2).mono ?_
                rintro e w13 ⟨rfl, B13⟩
                have TX2 := Lib.hid (TX.out.trans (Moves.of_below B13))
                have KX := Lib.hid (KJ.out.stays' B13)
                have MX := Lib.hid (MJ.out.trans (Moves.of_below B13))
                have HE2 := Lib.hid (And.intro (HE.out.1.below B13) HE.out.2)
                clear B13 TX KJ MJ HE cel
                go_wp2_with fail
                refine (rcos_lg (LX.out _ TX2.out) (LY.out _ TX2.out) HE2.out.1 HE2.out.2).mono ?_
                rintro e w14 ⟨rfl, B14⟩
                have KX2 := Lib.hid (KX.out.stays' B14)
                have MX2 := Lib.hid (MX.out.trans (Moves.of_below B14))
                clear B14 TX2 KX MX HE2
                generalize cosR _ _ _ = rr
                obtain ⟨r1, r2⟩ := rr
                go_wp2_with fail
                go_roundw
                case rel => exact ⟨J + 1, by go_num, by omega, KX2, MX2⟩
                case measure => simp [intOf] <;> omega
              · obtain rfl : J = 3 := by omega
                have hJi : ¬ ((3 : Nat) : Int) < 3 := by decide
                have BF := Lib.hid (Moves.below B2.out (T12.out.trans MJ.out) (Nat.le_of_eq HM.out.symm) B2.out.size)
                clear MJ T12
                go_wp2_with fail
                go_roundw
                case rel => exact ⟨I + 1, M + 1 + 3 * 12 + 1 + 1, by go_num, by omega, by have := HMM.out; omega, KJ, BF⟩
                case measure => simp [intOf] <;> omega
          · have hL1 : ¬ (0 : Int) < (L : Int) := by omega
            have HT7 := Lib.hid T7.out.size
            go_wp2_with (first
              | (at_builtin; refine wpList_appL _ rfl (.tmp 104) (.tmp 105) rfl w7.heap.size _ 0 [] rfl rfl HEM.out b3 A4 L c4 ms rfl (HO7.out.alloc _) HL.out HLN.out HBE.out.size ?_; intro v8 w8 O8' G8; have B8 := HBE.out.grown G8 HBE.out.size (fun k e => (own_block HEM.out e).1); have O8 := Lib.hid (show Own .i64 3 w8 w7.heap.size v8 ms from O8'); have K8 := Lib.hid (K7.out.stays' B8); have T8 := Lib.hid (T7.out.trans (Moves.of_below B8)); have HO8 := Lib.hid (HO7.out.below B8); have HA := Lib.hid (fun g (e : (Value.slice A4 L c4).ownBlock = some g) => (own_block HO7.out e).2); obtain ⟨A8, c8, rfl, -⟩ := O8.out.slice; rw [← HL.out] at O8 ⊢; clear O8' G8 B8))
            have O11 := Lib.hid O8.out
            have K11 := Lib.hid (K8.out.more (show M + 1 + 3 * 12 ≤ M + 1 + 3 * 12 + 1 + 1 by omega))
            have T11 := Lib.hid T8.out
            have HO11 := Lib.hid HO8.out
            have HL2 := Lib.hid HL.out
            clear O8 K8 T8 HO8
            generalize w8 = w11 at O11 K11 T11 HO11 ⊢
            have HEL := Lib.hid (show ∀ J, J < 3 → ∃ AE cE es, ∀ W, Moves m (w11.alloc (.cells #[.slice A4 L c4, .slice A8 L c8, .slice AD ld cd] 22)) W → W.cell? ⟨w11.heap.size, J, none⟩ = some (.slice AE es.length cE) ∧ Row .i64 W W.heap.size AE es ∧ es.length ≤ maxLen from fun J hJ => by
              have hlt : m < w11.heap.size := K11.out.lt
              rcases (by omega : J = 0 ∨ J = 1 ∨ J = 2) with rfl | rfl | rfl
              · refine ⟨A4, c4, ms, fun W k => ⟨?_, (own_rowM (HO11.out.alloc _) (Nat.lt_of_lt_of_le hm2 hb3) k).2, by have := HN.out; rw [← HL.out]; unfold maxLen; omega⟩⟩
                rw [← HL.out]
                exact (k.cell (p := ⟨w11.heap.size, 0, none⟩) (by simp) (by show w11.heap.size ≠ m; omega)).trans (cell_new _ _ _ 0)
              · refine ⟨A8, c8, ms, fun W k => ⟨?_, (own_rowM (O11.out.alloc _) HB7.out k).2, by have := HN.out; rw [← HL2.out]; unfold maxLen; omega⟩⟩
                rw [← HL2.out]
                exact (k.cell (p := ⟨w11.heap.size, 1, none⟩) (by simp) (by show w11.heap.size ≠ m; omega)).trans (cell_new _ _ _ 1)
              · refine ⟨AD, cd, ed, fun W k => ⟨?_, RD.out.1.below (Moves.below B2.out (((T11.out.alloc _).trans k)) (Nat.le_of_eq HM.out.symm) B2.out.size), RD.out.2.1⟩⟩
                rw [← RD.out.2.2]
                exact (k.cell (p := ⟨w11.heap.size, 2, none⟩) (by simp) (by show w11.heap.size ≠ m; omega)).trans (cell_new _ _ _ 2))
            have K12 := Lib.hid (K11.out.alloc (.cells #[.slice A4 L c4, .slice A8 L c8, .slice AD ld cd] 22))
            have T12 := Lib.hid (T11.out.alloc (.cells #[.slice A4 L c4, .slice A8 L c8, .slice AD ld cd] 22))
            generalize w11.heap.size = bl at HEL ⊢
            generalize w11.alloc _ = w12 at HEL K12 T12 ⊢
            clear O11 K11 T11 HO11
            go_loopw [124] (fun i wx => ∃ J : Nat, i = .int .i64 (J : Int) ∧ J ≤ 3 ∧ Hid (IsMk wx m (M + 1 + 3 * 12 + 1 + 1)) ∧ Hid (Moves m w12 wx)) (fun i _ => 3 - (intOf i).toNat)
            case atStart => exact ⟨0, rfl, by omega, K12, Lib.hid (Moves.refl m w12)⟩
            case round =>
              clear K12
              obtain ⟨J, rfl, hJ, KJ, MJ⟩ := hrel
              by_cases hJ3 : J < 3
              · have hJi : (J : Int) < 3 := by omega
                have hJ0 : (0 : Int) ≤ (J : Int) := by omega
                obtain ⟨AE, cE, es, hE⟩ := HEL.out J hJ3
                have cel := (hE _ MJ.out).1
                have HE := Lib.hid (hE _ MJ.out).2
                have TX := Lib.hid (T12.out.trans MJ.out)
                clear hE
                go_wp2_with fail
                refine (cos_lg (KN.out _ TX.out) (LX.out _ TX.out) (LY.out _ TX.out) HE.out.1 HE.out.2).mono ?_
                rintro e w13 ⟨rfl, B13⟩
                have TX2 := Lib.hid (TX.out.trans (Moves.of_below B13))
                have KX := Lib.hid (KJ.out.stays' B13)
                have MX := Lib.hid (MJ.out.trans (Moves.of_below B13))
                have HE2 := Lib.hid (And.intro (HE.out.1.below B13) HE.out.2)
                clear B13 TX KJ MJ HE cel
                go_wp2_with fail
                refine (rcos_lg (LX.out _ TX2.out) (LY.out _ TX2.out) HE2.out.1 HE2.out.2).mono ?_
                rintro e w14 ⟨rfl, B14⟩
                have KX2 := Lib.hid (KX.out.stays' B14)
                have MX2 := Lib.hid (MX.out.trans (Moves.of_below B14))
                clear B14 TX2 KX MX HE2
                generalize cosR _ _ _ = rr
                obtain ⟨r1, r2⟩ := rr
                go_wp2_with fail
                go_roundw
                case rel => exact ⟨J + 1, by go_num, by omega, KX2, MX2⟩
                case measure => simp [intOf] <;> omega
              · obtain rfl : J = 3 := by omega
                have hJi : ¬ ((3 : Nat) : Int) < 3 := by decide
                have BF := Lib.hid (Moves.below B2.out (T12.out.trans MJ.out) (Nat.le_of_eq HM.out.symm) B2.out.size)
                clear MJ T12
                go_wp2_with fail
                go_roundw
                case rel => exact ⟨I + 1, M + 1 + 3 * 12 + 1 + 1, by go_num, by omega, by have := HMM.out; omega, KJ, BF⟩
                case measure => simp [intOf] <;> omega
      · have h1i : ((I : Int) == 3) = false := beq_eq_false_iff_ne.2 (by omega)
        clear HB60
        go_wp2_with fail
        have KN := Lib.hid (show ∀ W, Moves m w2 W → Knd W from fun W k => HK.out.below' (Moves.below B2.out k (Nat.le_of_eq HM.out.symm) B2.out.size))
        have hm2 : m < w2.heap.size := K2.out.lt
        have T2 := Lib.hid (Moves.refl m w2)
        refine (ali_sm (KN.out _ T2.out) (LX.out _ T2.out) (LY.out _ T2.out)).mono ?_
        rintro e w3 ⟨⟨v3, rfl, O3⟩, B3⟩
        have T3 := Lib.hid (T2.out.trans (Moves.of_below B3))
        have K3 := Lib.hid (K2.out.stays' B3)
        have HN := Lib.hid (scr_sml (LX.out _ T2.out) (LY.out _ T2.out))
        have HNX := Lib.hid (LX.out _ T2.out).sml
        obtain ⟨A3, c3, rfl, R3, -⟩ := O3.slice
        have HR3 := Lib.hid R3
        clear R3 O3 B3 T2
        go_wp2_with fail
        refine (rali_sm (LX.out _ T3.out) (LY.out _ T3.out)).mono ?_
        rintro e w4 ⟨⟨v4, rfl, O4⟩, B4⟩
        have T4 := Lib.hid (T3.out.trans (Moves.of_below B4))
        have K4 := Lib.hid (K3.out.stays' B4)
        have HR4 := Lib.hid (HR3.out.below B4)
        obtain ⟨A4, c4, rfl, -⟩ := O4.slice
        have hb3 : w2.heap.size ≤ w3.heap.size := T3.out.size
        generalize w3.heap.size = b3 at O4 hb3
        have HO4 := Lib.hid O4
        clear O4 B4 T3 HR3 K3
        go_wp2_with fail
        refine (pot_sm (KN.out _ T4.out) (LX.out _ T4.out) (LY.out _ T4.out)).mono ?_
        rintro e w5 ⟨⟨g5, k5, c5, rfl, P5⟩, B5⟩
        have T5 := Lib.hid (T4.out.trans (Moves.of_below B5))
        have K5 := Lib.hid (K4.out.stays' B5)
        have HR5 := Lib.hid (HR4.out.below B5)
        have HO5 := Lib.hid (HO4.out.below B5)
        have HP5 := Lib.hid P5
        clear P5 B5 T4 HR4 HO4 K4
        go_wp2_with fail
        refine (rpot_sm (LX.out _ T5.out) (LY.out _ T5.out)).mono ?_
        rintro e w6 ⟨⟨g6, k6, c6, rfl, P6⟩, B6⟩
        have T6 := Lib.hid (T5.out.trans (Moves.of_below B6))
        have K6 := Lib.hid (K5.out.stays' B6)
        have HR6 := Lib.hid (HR5.out.below B6)
        have HO6 := Lib.hid (HO5.out.below B6)
        have HI6 := Lib.hid (ints_same2 (c := c3) (c' := c4) HR6.out (own_rowM HO6.out (Nat.lt_of_lt_of_le hm2 hb3) (Moves.refl m w6)).2 HN.out)
        have HL6 := Lib.hid (fun d => pots_same ((HP5.out.below B6).below (⟨rfl, rfl, rfl, Nat.le_refl _, fun _ _ => rfl⟩ : Below w6.heap.size w6 (w6.drewN d))) (P6.below (⟨rfl, rfl, rfl, Nat.le_refl _, fun _ _ => rfl⟩ : Below w6.heap.size w6 (w6.drewN d))) HNX.out)
        clear P6 B6 T5 HR5 HO5 HP5 HR6 K5
        go_wp2_with fail
        refine HI6.out.mono ?_
        rintro e w7 ⟨rfl, d1, rfl⟩
        go_wp2_with fail
        refine (HL6.out d1).mono ?_
        rintro e w7 ⟨rfl, d2, rfl⟩
        have T7 := Lib.hid ((T6.out.drewN (n := d1)).drewN (n := d2))
        have K7 := Lib.hid ((K6.out.drewN (n := d1)).drewN (n := d2))
        have HO7 := Lib.hid ((HO6.out.drewN d1).drewN d2)
        generalize ((w6.drewN d1).drewN d2) = w7 at T7 HO7 K7 ⊢
        generalize scr _ _ = ms at HO7 HN ⊢
        obtain ⟨L, hL⟩ : ∃ L, L = ms.length := ⟨_, rfl⟩
        have HL := Lib.hid hL
        rw [← hL] at HO7 HN ⊢
        clear HI6 HL6 HO6 T6 hL K6 HNX
        have hb7 : m < w7.heap.size := K7.out.lt
        have HB7 := Lib.hid hb7
        have HEM := Lib.hid (own_emptyR (Nat.le_refl w7.heap.size))
        have HBE := Lib.hid (box1W w7 (.cells #[] 3))
        have HLN := Lib.hid (show ([] : List Int).length + ms.length ≤ 1000000 by rw [List.length_nil, ← HL.out]; have := HN.out; omega)
        have hLs : L ≤ 1000000 := HN.out
        by_cases hL0 : 0 < L
        · have hL1 : (0 : Int) < (L : Int) := by omega
          have HT7 := Lib.hid T7.out.size
          go_wp2_with (first
            | (at_builtin; refine wpList_appL _ rfl (.tmp 104) (.tmp 105) rfl w7.heap.size _ 0 [] rfl rfl HEM.out b3 A4 L c4 ms rfl (HO7.out.alloc _) HL.out HLN.out HBE.out.size ?_; intro v8 w8 O8' G8; have B8 := HBE.out.grown G8 HBE.out.size (fun k e => (own_block HEM.out e).1); have O8 := Lib.hid (show Own .i64 3 w8 w7.heap.size v8 ms from O8'); have K8 := Lib.hid (K7.out.stays' B8); have T8 := Lib.hid (T7.out.trans (Moves.of_below B8)); have HO8 := Lib.hid (HO7.out.below B8); have HA := Lib.hid (fun g (e : (Value.slice A4 L c4).ownBlock = some g) => (own_block HO7.out e).2); obtain ⟨A8, c8, rfl, -⟩ := O8.out.slice; rw [← HL.out] at O8 ⊢; clear O8' G8 B8))
          refine (next_any m (M + 1 + 3 * 12) (L : Int) _ K8.out (by omega) (by omega) (by omega)).mono ?_
          rintro e w9 ⟨q, rfl, q1, q2, k9, m9⟩
          obtain ⟨Q, rfl⟩ := Int.eq_ofNat_of_zero_le q1
          have hQ : Q < L := by omega
          have O9 := Lib.hid (O8.out.moves m9 HB7.out)
          have K9 := Lib.hid k9
          have T9 := Lib.hid (T8.out.trans m9)
          have HO9 := Lib.hid (HO8.out.moves m9 (Nat.lt_of_lt_of_le hm2 hb3))
          obtain ⟨g8, rfl, -⟩ := O9.out.cellR (i := Q) (by rw [← HL.out]; exact hQ)
          clear k9 m9 O8 K8 T8 HO8 q2
          go_wp2_with fail
          refine (pick_any m (M + 1 + 3 * 12 + 1) (fun z => True) _ 7 7 _ (K9.out.alloc _) (by omega) (by omega) (by omega) (by have := K9.out.lt; omega) (by simp) (by exact new_pick _ _ (fun z => True) [-1, 0, 1, 2, 3, 4, 5] (fun _ _ => trivial) _ rfl)).mono ?_
          rintro e w10 ⟨p, rfl, -, k10, m10⟩
          have O10 := Lib.hid ((O9.out.alloc _).moves m10 HB7.out)
          have K10 := Lib.hid k10
          have T10 := Lib.hid ((T9.out.alloc _).trans m10)
          have HO10 := Lib.hid ((HO9.out.alloc _).moves m10 (Nat.lt_of_lt_of_le hm2 hb3))
          have c10 := O10.out.cell HL.out Q (by rw [← HL.out]; exact hQ)
          have f10 := O10.out.frozen HL.out Q
          have hq0 : (0 : Int) ≤ (Q : Int) := by omega
          have hqi : (Q : Int) < (L : Int) := by omega
          have hg8 := (own_block O10.out (g := g8) rfl)
          have O11 := Lib.hid (O10.out.store HL.out Q p)
          have K11 := Lib.hid (K10.out.setCell (p := ⟨g8, Q, none⟩) (Nat.lt_of_lt_of_le HB7.out hg8.1) (.int .i64 p))
          have T11 := Lib.hid (T10.out.setCell (p := ⟨g8, Q, none⟩) (Or.inr (Nat.le_trans HT7.out hg8.1)) (.int .i64 p))
          have HO11 := Lib.hid (own_store_other HO10.out O10.out HL.out HA.out Q p)
          have HL2 := Lib.hid (show L = (ms.set Q p).length by rw [List.length_set]; exact HL.out)
          generalize ms.set Q p = ms2 at O11 HL2
          clear k10 m10 O9 K9 T9 HO9
          go_wp2_with fail
          clear c10 f10 O10 K10 T10 HO10
          have HSZ : (w10.setCell ⟨g8, Q, none⟩ (.int .i64 p)).heap.size = w10.heap.size := by simp
          generalize w10.setCell _ _ = w11 at O11 K11 T11 HO11 HSZ ⊢
          rw [← HSZ]
          have HEL := Lib.hid (show ∀ J, J < 3 → ∃ AE cE es, ∀ W, Moves m (w11.alloc (.cells #[.slice A4 L c4, .slice (some ⟨g8, 0, none⟩) L c8, .slice AD ld cd] 22)) W → W.cell? ⟨w11.heap.size, J, none⟩ = some (.slice AE es.length cE) ∧ Row .i64 W W.heap.size AE es ∧ es.length ≤ maxLen from fun J hJ => by
            have hlt : m < w11.heap.size := K11.out.lt
            rcases (by omega : J = 0 ∨ J = 1 ∨ J = 2) with rfl | rfl | rfl
            · refine ⟨A4, c4, ms, fun W k => ⟨?_, (own_rowM (HO11.out.alloc _) (Nat.lt_of_lt_of_le hm2 hb3) k).2, by have := HN.out; rw [← HL.out]; unfold maxLen; omega⟩⟩
              rw [← HL.out]
              exact (k.cell (p := ⟨w11.heap.size, 0, none⟩) (by simp) (by show w11.heap.size ≠ m; omega)).trans (cell_new _ _ _ 0)
            · refine ⟨some ⟨g8, 0, none⟩, c8, ms2, fun W k => ⟨?_, (own_rowM (O11.out.alloc _) HB7.out k).2, by have := HN.out; rw [← HL2.out]; unfold maxLen; omega⟩⟩
              rw [← HL2.out]
              exact (k.cell (p := ⟨w11.heap.size, 1, none⟩) (by simp) (by show w11.heap.size ≠ m; omega)).trans (cell_new _ _ _ 1)
            · refine ⟨AD, cd, ed, fun W k => ⟨?_, RD.out.1.below (Moves.below B2.out (((T11.out.alloc _).trans k)) (Nat.le_of_eq HM.out.symm) B2.out.size), RD.out.2.1⟩⟩
              rw [← RD.out.2.2]
              exact (k.cell (p := ⟨w11.heap.size, 2, none⟩) (by simp) (by show w11.heap.size ≠ m; omega)).trans (cell_new _ _ _ 2))
          have K12 := Lib.hid (K11.out.alloc (.cells #[.slice A4 L c4, .slice (some ⟨g8, 0, none⟩) L c8, .slice AD ld cd] 22))
          have T12 := Lib.hid (T11.out.alloc (.cells #[.slice A4 L c4, .slice (some ⟨g8, 0, none⟩) L c8, .slice AD ld cd] 22))
          generalize w11.heap.size = bl at HEL ⊢
          generalize w11.alloc _ = w12 at HEL K12 T12 ⊢
          clear O11 K11 T11 HO11
          go_loopw [124] (fun i wx => ∃ J : Nat, i = .int .i64 (J : Int) ∧ J ≤ 3 ∧ Hid (IsMk wx m (M + 1 + 3 * 12 + 1 + 1)) ∧ Hid (Moves m w12 wx)) (fun i _ => 3 - (intOf i).toNat)
          case atStart => exact ⟨0, rfl, by omega, K12, Lib.hid (Moves.refl m w12)⟩
          case round =>
            clear K12
            obtain ⟨J, rfl, hJ, KJ, MJ⟩ := hrel
            by_cases hJ3 : J < 3
            · have hJi : (J : Int) < 3 := by omega
              have hJ0 : (0 : Int) ≤ (J : Int) := by omega
              obtain ⟨AE, cE, es, hE⟩ := HEL.out J hJ3
              have cel := (hE _ MJ.out).1
              have HE := Lib.hid (hE _ MJ.out).2
              have TX := Lib.hid (T12.out.trans MJ.out)
              clear hE
              go_wp2_with fail
              refine (cos_lg (KN.out _ TX.out) (LX.out _ TX.out) (LY.out _ TX.out) HE.out.1 HE.out.2).mono ?_
              rintro e w13 ⟨rfl, B13⟩
              have TX2 := Lib.hid (TX.out.trans (Moves.of_below B13))
              have KX := Lib.hid (KJ.out.stays' B13)
              have MX := Lib.hid (MJ.out.trans (Moves.of_below B13))
              have HE2 := Lib.hid (And.intro (HE.out.1.below B13) HE.out.2)
              clear B13 TX KJ MJ HE cel
              go_wp2_with fail
              refine (rcos_lg (LX.out _ TX2.out) (LY.out _ TX2.out) HE2.out.1 HE2.out.2).mono ?_
              rintro e w14 ⟨rfl, B14⟩
              have KX2 := Lib.hid (KX.out.stays' B14)
              have MX2 := Lib.hid (MX.out.trans (Moves.of_below B14))
              clear B14 TX2 KX MX HE2
              generalize cosR _ _ _ = rr
              obtain ⟨r1, r2⟩ := rr
              go_wp2_with fail
              go_roundw
              case rel => exact ⟨J + 1, by go_num, by omega, KX2, MX2⟩
              case measure => simp [intOf] <;> omega
            · obtain rfl : J = 3 := by omega
              have hJi : ¬ ((3 : Nat) : Int) < 3 := by decide
              have BF := Lib.hid (Moves.below B2.out (T12.out.trans MJ.out) (Nat.le_of_eq HM.out.symm) B2.out.size)
              clear MJ T12
              go_wp2_with fail
              go_roundw
              case rel => exact ⟨I + 1, M + 1 + 3 * 12 + 1 + 1, by go_num, by omega, by have := HMM.out; omega, KJ, BF⟩
              case measure => simp [intOf] <;> omega
        · have hL1 : ¬ (0 : Int) < (L : Int) := by omega
          have HT7 := Lib.hid T7.out.size
          go_wp2_with (first
            | (at_builtin; refine wpList_appL _ rfl (.tmp 104) (.tmp 105) rfl w7.heap.size _ 0 [] rfl rfl HEM.out b3 A4 L c4 ms rfl (HO7.out.alloc _) HL.out HLN.out HBE.out.size ?_; intro v8 w8 O8' G8; have B8 := HBE.out.grown G8 HBE.out.size (fun k e => (own_block HEM.out e).1); have O8 := Lib.hid (show Own .i64 3 w8 w7.heap.size v8 ms from O8'); have K8 := Lib.hid (K7.out.stays' B8); have T8 := Lib.hid (T7.out.trans (Moves.of_below B8)); have HO8 := Lib.hid (HO7.out.below B8); have HA := Lib.hid (fun g (e : (Value.slice A4 L c4).ownBlock = some g) => (own_block HO7.out e).2); obtain ⟨A8, c8, rfl, -⟩ := O8.out.slice; rw [← HL.out] at O8 ⊢; clear O8' G8 B8))
          have O11 := Lib.hid O8.out
          have K11 := Lib.hid (K8.out.more (show M + 1 + 3 * 12 ≤ M + 1 + 3 * 12 + 1 + 1 by omega))
          have T11 := Lib.hid T8.out
          have HO11 := Lib.hid HO8.out
          have HL2 := Lib.hid HL.out
          clear O8 K8 T8 HO8
          generalize w8 = w11 at O11 K11 T11 HO11 ⊢
          have HEL := Lib.hid (show ∀ J, J < 3 → ∃ AE cE es, ∀ W, Moves m (w11.alloc (.cells #[.slice A4 L c4, .slice A8 L c8, .slice AD ld cd] 22)) W → W.cell? ⟨w11.heap.size, J, none⟩ = some (.slice AE es.length cE) ∧ Row .i64 W W.heap.size AE es ∧ es.length ≤ maxLen from fun J hJ => by
            have hlt : m < w11.heap.size := K11.out.lt
            rcases (by omega : J = 0 ∨ J = 1 ∨ J = 2) with rfl | rfl | rfl
            · refine ⟨A4, c4, ms, fun W k => ⟨?_, (own_rowM (HO11.out.alloc _) (Nat.lt_of_lt_of_le hm2 hb3) k).2, by have := HN.out; rw [← HL.out]; unfold maxLen; omega⟩⟩
              rw [← HL.out]
              exact (k.cell (p := ⟨w11.heap.size, 0, none⟩) (by simp) (by show w11.heap.size ≠ m; omega)).trans (cell_new _ _ _ 0)
            · refine ⟨A8, c8, ms, fun W k => ⟨?_, (own_rowM (O11.out.alloc _) HB7.out k).2, by have := HN.out; rw [← HL2.out]; unfold maxLen; omega⟩⟩
              rw [← HL2.out]
              exact (k.cell (p := ⟨w11.heap.size, 1, none⟩) (by simp) (by show w11.heap.size ≠ m; omega)).trans (cell_new _ _ _ 1)
            · refine ⟨AD, cd, ed, fun W k => ⟨?_, RD.out.1.below (Moves.below B2.out (((T11.out.alloc _).trans k)) (Nat.le_of_eq HM.out.symm) B2.out.size), RD.out.2.1⟩⟩
              rw [← RD.out.2.2]
              exact (k.cell (p := ⟨w11.heap.size, 2, none⟩) (by simp) (by show w11.heap.size ≠ m; omega)).trans (cell_new _ _ _ 2))
          have K12 := Lib.hid (K11.out.alloc (.cells #[.slice A4 L c4, .slice A8 L c8, .slice AD ld cd] 22))
          have T12 := Lib.hid (T11.out.alloc (.cells #[.slice A4 L c4, .slice A8 L c8, .slice AD ld cd] 22))
          generalize w11.heap.size = bl at HEL ⊢
          generalize w11.alloc _ = w12 at HEL K12 T12 ⊢
          clear O11 K11 T11 HO11
          go_loopw [124] (fun i wx => ∃ J : Nat, i = .int .i64 (J : Int) ∧ J ≤ 3 ∧ Hid (IsMk wx m (M + 1 + 3 * 12 + 1 + 1)) ∧ Hid (Moves m w12 wx)) (fun i _ => 3 - (intOf i).toNat)
          case atStart => exact ⟨0, rfl, by omega, K12, Lib.hid (Moves.refl m w12)⟩
          case round =>
            clear K12
            obtain ⟨J, rfl, hJ, KJ, MJ⟩ := hrel
            by_cases hJ3 : J < 3
            · have hJi : (J : Int) < 3 := by omega
              have hJ0 : (0 : Int) ≤ (J : Int) := by omega
              obtain ⟨AE, cE, es, hE⟩ := HEL.out J hJ3
              have cel := (hE _ MJ.out).1
              have HE := Lib.hid (hE _ MJ.out).2
              have TX := Lib.hid (T12.out.trans MJ.out)
              clear hE
              go_wp2_with fail
              refine (cos_lg (KN.out _ TX.out) (LX.out _ TX.out) (LY.out _ TX.out) HE.out.1 HE.out.2).mono ?_
              rintro e w13 ⟨rfl, B13⟩
              have TX2 := Lib.hid (TX.out.trans (Moves.of_below B13))
              have KX := Lib.hid (KJ.out.stays' B13)
              have MX := Lib.hid (MJ.out.trans (Moves.of_below B13))
              have HE2 := Lib.hid (And.intro (HE.out.1.below B13) HE.out.2)
              clear B13 TX KJ MJ HE cel
              go_wp2_with fail
              refine (rcos_lg (LX.out _ TX2.out) (LY.out _ TX2.out) HE2.out.1 HE2.out.2).mono ?_
              rintro e w14 ⟨rfl, B14⟩
              have KX2 := Lib.hid (KX.out.stays' B14)
              have MX2 := Lib.hid (MX.out.trans (Moves.of_below B14))
              clear B14 TX2 KX MX HE2
              generalize cosR _ _ _ = rr
              obtain ⟨r1, r2⟩ := rr
              go_wp2_with fail
              go_roundw
              case rel => exact ⟨J + 1, by go_num, by omega, KX2, MX2⟩
              case measure => simp [intOf] <;> omega
            · obtain rfl : J = 3 := by omega
              have hJi : ¬ ((3 : Nat) : Int) < 3 := by decide
              have BF := Lib.hid (Moves.below B2.out (T12.out.trans MJ.out) (Nat.le_of_eq HM.out.symm) B2.out.size)
              clear MJ T12
              go_wp2_with fail
              go_roundw
              case rel => exact ⟨I + 1, M + 1 + 3 * 12 + 1 + 1, by go_num, by omega, by have := HMM.out; omega, KJ, BF⟩
              case measure => simp [intOf] <;> omega
    · obtain rfl : I = 4 := by omega
      have h2 : ¬ ((4 : Nat) : Int) < 4 := by decide
      have HK2 := Lib.hid (HK.out.below' B.out)
      go_wp2_with fail
      refine (sane_any _ HK2.out).mono ?_
      rintro e w5 ⟨rfl, B5⟩
      have B6 := Lib.hid (B.out.trans (B5.mono B.out.size))
      clear B5 B HK2
      go_wp2_with fail
      go_ret
      exact ⟨rfl, B6.out⟩
end Go.Proofs.YtbdiilkdajadcaaDoor
