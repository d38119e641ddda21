/-
  Stage 8: the walk of ReconcileLimits.
-/
import Derived.Test.YtbdiilkdajadcaaDoorRLaw
import Derived.Test.YtbdiilkdajadcaaDoorRLimM
import Derived.Test.YtbdiilkdajadcaaDoorRNew
set_option linter.unusedSimpArgs false
set_option linter.unusedVariables false
namespace Go.Proofs.YtbdiilkdajadcaaDoor
open Go.RowKit

theorem lim_num (n : Int) : ∃ N : Nat, 94 ≤ N ∧ N ≤ 97 ∧ 94 + n.tmod 4 % 4 = (N : Int) := by
  have h1 := Int.emod_nonneg (n.tmod 4) (b := 4) (by decide)
  have h2 := Int.emod_lt_of_pos (n.tmod 4) (b := 4) (by decide)
  exact ⟨(94 + n.tmod 4 % 4).toNat, by omega, by omega, by omega⟩
/-- The two lists of the law. -/
structure LSt (w : World) (ga gb N M k : Nat) (zs : List Int) (W : World) : Prop where
  a : Own .i64 3 W w.heap.size (.slice (some ⟨ga, 0, none⟩) N N) (rowL (fun _ => (0 : Int)) N)
  b : Own .i64 3 W w.heap.size (.slice (some ⟨gb, 0, none⟩) M M) zs
  len : M = zs.length
  ne : ga ≠ gb
  ones : ∀ j, j < k → zs.getD j 0 = 1
  bel : Below w.heap.size w W
theorem laid_own (w : World) (base : Nat) (hb : base ≤ w.heap.size) (N : Nat) (h : N ≤ 1000) (g : Nat) (hg : g = w.heap.size) : Own .i64 3 (w.alloc (.cells (IR.flat (rowL (fun _ => (0 : Int)) N)).toArray 3)) base (.slice (some ⟨g, 0, none⟩) N N) (rowL (fun _ => (0 : Int)) N) := by
  subst hg; exact rown_own (ROwn.laid IR w base hb _ N (rowL_len _ _) h)
theorem LSt.init1 (w : World) {N M : Nat} (hN : N ≤ 1000) (hM : M ≤ 1000) : LSt w w.heap.size (w.heap.size + 1) N M 0 (rowL (fun _ => (0 : Int)) M) ((w.alloc (.cells (IR.flat (rowL (fun _ => (0 : Int)) N)).toArray 3)).alloc (.cells (IR.flat (rowL (fun _ => (0 : Int)) M)).toArray 3)).drew :=
  ⟨((laid_own w _ (Nat.le_refl _) N hN _ rfl).alloc _).drewN 1, (laid_own _ _ (by simp) M hM _ (by simp)).drewN 1, (rowL_len _ _).symm, by omega, fun j hj => absurd hj (Nat.not_lt_zero j), bdn ((box1W _ _).alloc (by simp) _)⟩
theorem LSt.init2 (w : World) {N M : Nat} (hN : N ≤ 1000) (hM : M ≤ 1000) : LSt w (w.heap.size + 1) w.heap.size N M 0 (rowL (fun _ => (0 : Int)) M) ((w.alloc (.cells (IR.flat (rowL (fun _ => (0 : Int)) M)).toArray 3)).alloc (.cells (IR.flat (rowL (fun _ => (0 : Int)) N)).toArray 3)).drew :=
  ⟨(laid_own _ _ (by simp) N hN _ (by simp)).drewN 1, ((laid_own w _ (Nat.le_refl _) M hM _ rfl).alloc _).drewN 1, (rowL_len _ _).symm, by omega, fun j hj => absurd hj (Nat.not_lt_zero j), bdn ((box1W _ _).alloc (by simp) _)⟩
theorem LSt.step {w W : World} {ga gb N M k : Nat} {zs : List Int} (h : LSt w ga gb N M k zs W) (hk : k < M) : LSt w ga gb N M (k + 1) (zs.set k 1) (W.setCell ⟨gb, k, none⟩ (.int .i64 1)) := by
  have hg := (own_block h.b (g := gb) rfl)
  have b := h.b.store h.len k 1
  have hz : W.ownsRow w.heap.size 3 1 (.slice (some ⟨gb, 0, none⟩) M M) M (zs.map (Value.int .i64)) := by
    have := h.b; unfold Own at this; rwa [← h.len] at this
  refine ⟨h.a.kept (World.ownsRow.stored hz k (.int .i64 1)).2 (Or.inr (fun e => h.ne (by simpa [Value.ownBlock] using e))), b, by rw [List.length_set]; exact h.len, h.ne, fun j hj => ?_, h.bel.setCell (p := ⟨gb, k, none⟩) hg.1 _⟩
  rw [List.getD_eq_getElem?_getD, List.getElem?_set]
  split
  · rename_i e
    subst e
    rw [if_pos (by rw [← h.len]; exact hk)]; rfl
  · have := h.ones j (by omega)
    rwa [List.getD_eq_getElem?_getD] at this
theorem LSt.noC {w W : World} {ga gb N M : Nat} {zs : List Int} (h : LSt w ga gb N M M zs W) : NoC (rowL (fun _ => (0 : Int)) N) zs := fun i j hi hj => by
  rw [rowL_len] at hi
  rw [rowL_getD _ _ hi, h.ones j (by rw [h.len]; exact hj)]
  decide
theorem own_rowR {w : World} {base : Nat} {A : Option Addr} {n c : Nat} {zs : List Int} (h : Own .i64 3 w base (.slice A n c) zs) : Row .i64 w w.heap.size A zs := by
  obtain ⟨A', c', e, R, _⟩ := h.slice
  injection e with e _ _; subst e; exact R
theorem ali_lng {a b : List Int} {A B : Option Addr} {n m : Nat} {w : World} (hK : Knd w) (hn : n = a.length) (hm : m = b.length) (hl : lngP a b) (h1 : n ≤ 1000) (h2 : m ≤ 1000) (ha : Row .i64 w w.heap.size A a) (hb : Row .i64 w w.heap.size B b) :
    Calls Tryd.prog 9 #[.slice A n n, .slice B m m] w fun e w' => (∃ A' c, e = .returned (.tuple #[.slice A' 0 c, .int .i64 0, .int .i64 3])) ∧ Below w.heap.size w w' := by
  subst hn; subst hm
  refine (ali_any a b A B _ _ w hK (by omega) (by omega) ha hb (Nat.le_refl _) (Nat.le_refl _)).mono ?_
  rw [show aliR a b = ([], 0, 3) from if_pos hl]
  rintro e w' ⟨⟨v, rfl, O⟩, hb⟩
  obtain ⟨A', c, rfl, _⟩ := O.slice
  exact ⟨⟨A', c, rfl⟩, hb⟩
theorem pot_lng {a b : List Int} {A B : Option Addr} {n m : Nat} {w : World} (hK : Knd w) (hn : n = a.length) (hm : m = b.length) (hl : lngP a b) (h1 : n ≤ 1000) (h2 : m ≤ 1000) (ha : Row .i64 w w.heap.size A a) (hb : Row .i64 w w.heap.size B b) :
    Calls Tryd.prog 10 #[.slice A n n, .slice B m m] w fun e w' => e = .returned (.tuple #[.slice none 0 0, .int .i64 3]) ∧ Below w.heap.size w w' := by
  subst hn; subst hm
  refine (pot_any a b A B _ _ w hK (by omega) (by omega) ha hb (Nat.le_refl _) (Nat.le_refl _)).mono ?_
  rintro e w' ⟨h, hb⟩
  rw [if_pos hl] at h
  exact ⟨h, hb⟩
set_option maxRecDepth 100000 in
set_option maxHeartbeats 12800000 in
theorem lim_walk (n m : Int) (w : World) (hK : Knd w) (hn : -9223372036854775808 ≤ n ∧ n ≤ 9223372036854775807) (hm : -9223372036854775808 ≤ m ∧ m ≤ 9223372036854775807) :
    Calls Tryd.prog 3 #[.int .i64 n, .int .i64 m] w fun e w' => e = .returned (.bool true) ∧ Below w.heap.size w w' := by
  have HK := Lib.hid hK
  have t1 := tmod_in n 4 (by decide)
  have t2 := tmod_in m 4 (by decide)
  have t3 := tmod_in (n.tmod 4 + 4) 4 (by decide)
  have t4 := tmod_in (m.tmod 4 + 4) 4 (by decide)
  obtain ⟨N, n1, n2, n3⟩ := lim_num n
  obtain ⟨M, m1, m2, m3⟩ := lim_num m
  clear hK
  go_enter Tryd.func3, Tryd.ntmps3
  go_upto_region 2 with fail
  have MN := fun W => make_rowI W N (by omega)
  have MM := fun W => make_rowI W M (by omega)
  clear t1 t2 t3 t4 n3 m3 hn hm
  have N0 : (0 : Int) ≤ (N : Int) := by omega
  have M0 : (0 : Int) ≤ (M : Int) := by omega
  go_region
  · have HI := Lib.hid (LSt.init1 w (N := N) (M := M) (by omega) (by omega))
    clear MN MM
    generalize (World.drew _) = w2 at HI ⊢
    go_wp2_with fail
    go_loopw [29] (fun i wr => ∃ (k : Nat) (zs : List Int), i = .int .i64 (k : Int) ∧ k ≤ M ∧ Hid (LSt w (w.heap.size) (w.heap.size + 1) N M k zs wr)) (fun i _ => M - (intOf i).toNat)
    case atStart => exact ⟨0, _, rfl, by omega, HI⟩
    case round =>
      clear HI
      obtain ⟨k, zs, rfl, hk, H⟩ := hrel
      by_cases hkM : k < M
      · have hk' : (k : Int) < (M : Int) := by omega
        have hk0 : (0 : Int) ≤ (k : Int) := by omega
        have cb := H.out.b.cell H.out.len k (by rw [← H.out.len]; exact hkM)
        have fb := H.out.b.frozen H.out.len k
        have HS := Lib.hid (H.out.step hkM)
        clear H
        go_wp2_with fail
        go_roundw
        case rel => exact ⟨k + 1, _, by go_num, by omega, HS⟩
        case measure => simp [intOf] <;> omega
      · obtain rfl : k = M := by omega
        have hk' : ¬ (k : Int) < (k : Int) := by omega
        have HLK := Lib.hid H.out.len
        have HNC := Lib.hid H.out.noC
        have HB2 := Lib.hid H.out.bel
        have HK2 := Lib.hid (HK.out.below' H.out.bel)
        have RA := Lib.hid (own_rowR H.out.a)
        have RB := Lib.hid (own_rowR H.out.b)
        have HN2 := Lib.hid (show N = (rowL (fun _ => (0 : Int)) N).length from (rowL_len _ _).symm)
        generalize rowL (fun _ => (0 : Int)) N = xs at HNC RA HN2
        clear H
        generalize wr = w3 at *
        by_cases hl : 96 < N ∨ 96 < k
        · have HLG := Lib.hid (show lngP xs zs by unfold lngP; rw [← HN2.out, ← HLK.out]; exact hl)
          go_wp2_with fail
          refine (ali_lng HK2.out HN2.out HLK.out HLG.out (by omega) (by omega) RA.out RB.out).mono ?_
          rintro e w4 ⟨⟨A4, c4, rfl⟩, B4⟩
          have HB4 := Lib.hid (HB2.out.trans (B4.mono HB2.out.size))
          have HK4 := Lib.hid (HK.out.below' HB4.out)
          have RA4 := Lib.hid (RA.out.below B4)
          have RB4 := Lib.hid (RB.out.below B4)
          clear B4 HB2 HK2 RA RB
          go_wp2_with fail
          refine (pot_lng HK4.out HN2.out HLK.out HLG.out (by omega) (by omega) RA4.out RB4.out).mono ?_
          rintro e w5 ⟨rfl, B5⟩
          have HB5 := Lib.hid (HB4.out.trans (B5.mono HB4.out.size))
          have HK5 := Lib.hid (HK.out.below' HB5.out)
          clear B5 HB4 HK4 RA4 RB4 HLG HNC HLK HN2
          by_cases hN : 96 < N
          · have hNi : (96 : Int) < (N : Int) := by omega
            clear hl
            go_wp2_with fail
            refine (sane_any _ HK5.out).mono ?_
            rintro e w9 ⟨rfl, B9⟩
            have HB9 := Lib.hid (HB5.out.trans (B9.mono HB5.out.size))
            clear B9 HB5 HK5
            go_wp2_with fail
            go_ret
            exact ⟨rfl, HB9.out⟩
          · have hNi : ¬ (96 : Int) < (N : Int) := by omega
            have hMi : (96 : Int) < (k : Int) := by omega
            clear hl
            go_wp2_with fail
            refine (sane_any _ HK5.out).mono ?_
            rintro e w9 ⟨rfl, B9⟩
            have HB9 := Lib.hid (HB5.out.trans (B9.mono HB5.out.size))
            clear B9 HB5 HK5
            go_wp2_with fail
            go_ret
            exact ⟨rfl, HB9.out⟩
        · have LX := Lib.hid (show Lst w3 _ N N xs from ⟨HN2.out, by rw [← HN2.out]; omega, RA.out, Nat.le_of_eq HN2.out.symm⟩)
          have LY := Lib.hid (show Lst w3 _ k k zs from ⟨HLK.out, by rw [← HLK.out]; omega, RB.out, Nat.le_of_eq HLK.out.symm⟩)
          have hNi : ¬ (96 : Int) < (N : Int) := by omega
          have hMi : ¬ (96 : Int) < (k : Int) := by omega
          have hcst := HNC.out.cst 0 0 (Nat.zero_le _) (Nat.zero_le _)
          rw [Nat.sub_zero, Nat.sub_zero, ← HN2.out, ← HLK.out] at hcst
          have hscr := HNC.out.scr
          obtain ⟨L, hL⟩ : ∃ L, L = (if N ≤ k then k else N) := ⟨_, rfl⟩
          rw [← HN2.out, ← HLK.out, ← hL] at hscr
          have HLL := Lib.hid hL
          have HCST := Lib.hid hcst
          have HSCR := Lib.hid hscr
          clear hl hcst hscr RA RB HNC hL
          go_wp2_with fail
          refine (ali_sm HK2.out LX.out LY.out).mono ?_
          rintro e w4 ⟨⟨v4, rfl, O4⟩, B4⟩
          obtain ⟨A4, c4, rfl, -⟩ := O4.slice
          rw [HSCR.out]
          have HB4 := Lib.hid (HB2.out.trans (B4.mono HB2.out.size))
          have HK4 := Lib.hid (HK.out.below' HB4.out)
          have LX4 := Lib.hid (LX.out.below B4)
          have LY4 := Lib.hid (LY.out.below B4)
          clear B4 HB2 HK2 LX LY O4
          go_wp2_with fail
          refine (pot_sm HK4.out LX4.out LY4.out).mono ?_
          rintro e w5 ⟨⟨g, k5, cg, rfl, P5⟩, B5⟩
          have HB5 := Lib.hid (HB4.out.trans (B5.mono HB4.out.size))
          have HK5 := Lib.hid (HK.out.below' HB5.out)
          have HV := Lib.hid (ver_yes HK5.out (LX4.out.below B5) (LY4.out.below B5) P5)
          rw [HCST.out] at HV ⊢
          clear B5 HB4 HK4 LX4 LY4 P5 HCST HSCR
          rcases Nat.lt_trichotomy N k with hmn | hmn | hmn
          · have hmi : (N : Int) < (k : Int) := by omega
            have hmj : ¬ (k : Int) < (N : Int) := by omega
            have hmk : ¬ (N : Int) = (k : Int) := by omega
            rw [apt_le (Nat.le_of_lt hmn)] at HV ⊢
            rw [show L = k by rw [HLL.out, if_pos (Nat.le_of_lt hmn)]]
            go_wp2_with fail
            refine HV.out.mono ?_
            rintro e w6 ⟨rfl, B6⟩
            have HB6 := Lib.hid (HB5.out.trans (B6.mono HB5.out.size))
            have HK6 := Lib.hid (HK.out.below' HB6.out)
            clear B6 HB5 HK5 HV HLL
            go_wp2_with fail
            refine (sane_any _ HK6.out).mono ?_
            rintro e w9 ⟨rfl, B9⟩
            have HB9 := Lib.hid (HB6.out.trans (B9.mono HB6.out.size))
            clear B9 HB6 HK6
            go_wp2_with fail
            go_ret
            exact ⟨rfl, HB9.out⟩
          · subst hmn
            rw [apt_eq] at HV ⊢
            rw [show L = N by rw [HLL.out, if_pos (Nat.le_refl _)]]
            go_wp2_with fail
            refine HV.out.mono ?_
            rintro e w6 ⟨rfl, B6⟩
            have HB6 := Lib.hid (HB5.out.trans (B6.mono HB5.out.size))
            have HK6 := Lib.hid (HK.out.below' HB6.out)
            clear B6 HB5 HK5 HV HLL
            go_wp2_with fail
            refine (sane_any _ HK6.out).mono ?_
            rintro e w9 ⟨rfl, B9⟩
            have HB9 := Lib.hid (HB6.out.trans (B9.mono HB6.out.size))
            clear B9 HB6 HK6
            go_wp2_with fail
            go_ret
            exact ⟨rfl, HB9.out⟩
          · have hmi : (k : Int) < (N : Int) := by omega
            have hmj : ¬ (N : Int) < (k : Int) := by omega
            have hmk : ¬ (N : Int) = (k : Int) := by omega
            have hml : ¬ N ≤ k := by omega
            rw [apt_ge (Nat.le_of_lt hmn)] at HV ⊢
            rw [show L = N by rw [HLL.out, if_neg hml]]
            go_wp2_with fail
            refine HV.out.mono ?_
            rintro e w6 ⟨rfl, B6⟩
            have HB6 := Lib.hid (HB5.out.trans (B6.mono HB5.out.size))
            have HK6 := Lib.hid (HK.out.below' HB6.out)
            clear B6 HB5 HK5 HV HLL
            go_wp2_with fail
            refine (sane_any _ HK6.out).mono ?_
            rintro e w9 ⟨rfl, B9⟩
            have HB9 := Lib.hid (HB6.out.trans (B9.mono HB6.out.size))
            clear B9 HB6 HK6
            go_wp2_with fail
            go_ret
            exact ⟨rfl, HB9.out⟩
  · have HI := Lib.hid (LSt.init2 w (N := N) (M := M) (by omega) (by omega))
    clear MN MM
    generalize (World.drew _) = w2 at HI ⊢
    go_wp2_with fail
    go_loopw [29] (fun i wr => ∃ (k : Nat) (zs : List Int), i = .int .i64 (k : Int) ∧ k ≤ M ∧ Hid (LSt w (w.heap.size + 1) (w.heap.size) N M k zs wr)) (fun i _ => M - (intOf i).toNat)
    case atStart => exact ⟨0, _, rfl, by omega, HI⟩
    case round =>
      clear HI
      obtain ⟨k, zs, rfl, hk, H⟩ := hrel
      by_cases hkM : k < M
      · have hk' : (k : Int) < (M : Int) := by omega
        have hk0 : (0 : Int) ≤ (k : Int) := by omega
        have cb := H.out.b.cell H.out.len k (by rw [← H.out.len]; exact hkM)
        have fb := H.out.b.frozen H.out.len k
        have HS := Lib.hid (H.out.step hkM)
        clear H
        go_wp2_with fail
        go_roundw
        case rel => exact ⟨k + 1, _, by go_num, by omega, HS⟩
        case measure => simp [intOf] <;> omega
      · obtain rfl : k = M := by omega
        have hk' : ¬ (k : Int) < (k : Int) := by omega
        have HLK := Lib.hid H.out.len
        have HNC := Lib.hid H.out.noC
        have HB2 := Lib.hid H.out.bel
        have HK2 := Lib.hid (HK.out.below' H.out.bel)
        have RA := Lib.hid (own_rowR H.out.a)
        have RB := Lib.hid (own_rowR H.out.b)
        have HN2 := Lib.hid (show N = (rowL (fun _ => (0 : Int)) N).length from (rowL_len _ _).symm)
        generalize rowL (fun _ => (0 : Int)) N = xs at HNC RA HN2
        clear H
        generalize wr = w3 at *
        by_cases hl : 96 < N ∨ 96 < k
        · have HLG := Lib.hid (show lngP xs zs by unfold lngP; rw [← HN2.out, ← HLK.out]; exact hl)
          go_wp2_with fail
          refine (ali_lng HK2.out HN2.out HLK.out HLG.out (by omega) (by omega) RA.out RB.out).mono ?_
          rintro e w4 ⟨⟨A4, c4, rfl⟩, B4⟩
          have HB4 := Lib.hid (HB2.out.trans (B4.mono HB2.out.size))
          have HK4 := Lib.hid (HK.out.below' HB4.out)
          have RA4 := Lib.hid (RA.out.below B4)
          have RB4 := Lib.hid (RB.out.below B4)
          clear B4 HB2 HK2 RA RB
          go_wp2_with fail
          refine (pot_lng HK4.out HN2.out HLK.out HLG.out (by omega) (by omega) RA4.out RB4.out).mono ?_
          rintro e w5 ⟨rfl, B5⟩
          have HB5 := Lib.hid (HB4.out.trans (B5.mono HB4.out.size))
          have HK5 := Lib.hid (HK.out.below' HB5.out)
          clear B5 HB4 HK4 RA4 RB4 HLG HNC HLK HN2
          by_cases hN : 96 < N
          · have hNi : (96 : Int) < (N : Int) := by omega
            clear hl
            go_wp2_with fail
            refine (sane_any _ HK5.out).mono ?_
            rintro e w9 ⟨rfl, B9⟩
            have HB9 := Lib.hid (HB5.out.trans (B9.mono HB5.out.size))
            clear B9 HB5 HK5
            go_wp2_with fail
            go_ret
            exact ⟨rfl, HB9.out⟩
          · have hNi : ¬ (96 : Int) < (N : Int) := by omega
            have hMi : (96 : Int) < (k : Int) := by omega
            clear hl
            go_wp2_with fail
            refine (sane_any _ HK5.out).mono ?_
            rintro e w9 ⟨rfl, B9⟩
            have HB9 := Lib.hid (HB5.out.trans (B9.mono HB5.out.size))
            clear B9 HB5 HK5
            go_wp2_with fail
            go_ret
            exact ⟨rfl, HB9.out⟩
        · have LX := Lib.hid (show Lst w3 _ N N xs from ⟨HN2.out, by rw [← HN2.out]; omega, RA.out, Nat.le_of_eq HN2.out.symm⟩)
          have LY := Lib.hid (show Lst w3 _ k k zs from ⟨HLK.out, by rw [← HLK.out]; omega, RB.out, Nat.le_of_eq HLK.out.symm⟩)
          have hNi : ¬ (96 : Int) < (N : Int) := by omega
          have hMi : ¬ (96 : Int) < (k : Int) := by omega
          have hcst := HNC.out.cst 0 0 (Nat.zero_le _) (Nat.zero_le _)
          rw [Nat.sub_zero, Nat.sub_zero, ← HN2.out, ← HLK.out] at hcst
          have hscr := HNC.out.scr
          obtain ⟨L, hL⟩ : ∃ L, L = (if N ≤ k then k else N) := ⟨_, rfl⟩
          rw [← HN2.out, ← HLK.out, ← hL] at hscr
          have HLL := Lib.hid hL
          have HCST := Lib.hid hcst
          have HSCR := Lib.hid hscr
          clear hl hcst hscr RA RB HNC hL
          go_wp2_with fail
          refine (ali_sm HK2.out LX.out LY.out).mono ?_
          rintro e w4 ⟨⟨v4, rfl, O4⟩, B4⟩
          obtain ⟨A4, c4, rfl, -⟩ := O4.slice
          rw [HSCR.out]
          have HB4 := Lib.hid (HB2.out.trans (B4.mono HB2.out.size))
          have HK4 := Lib.hid (HK.out.below' HB4.out)
          have LX4 := Lib.hid (LX.out.below B4)
          have LY4 := Lib.hid (LY.out.below B4)
          clear B4 HB2 HK2 LX LY O4
          go_wp2_with fail
          refine (pot_sm HK4.out LX4.out LY4.out).mono ?_
          rintro e w5 ⟨⟨g, k5, cg, rfl, P5⟩, B5⟩
          have HB5 := Lib.hid (HB4.out.trans (B5.mono HB4.out.size))
          have HK5 := Lib.hid (HK.out.below' HB5.out)
          have HV := Lib.hid (ver_yes HK5.out (LX4.out.below B5) (LY4.out.below B5) P5)
          rw [HCST.out] at HV ⊢
          clear B5 HB4 HK4 LX4 LY4 P5 HCST HSCR
          rcases Nat.lt_trichotomy N k with hmn | hmn | hmn
          · have hmi : (N : Int) < (k : Int) := by omega
            have hmj : ¬ (k : Int) < (N : Int) := by omega
            have hmk : ¬ (N : Int) = (k : Int) := by omega
            rw [apt_le (Nat.le_of_lt hmn)] at HV ⊢
            rw [show L = k by rw [HLL.out, if_pos (Nat.le_of_lt hmn)]]
            go_wp2_with fail
            refine HV.out.mono ?_
            rintro e w6 ⟨rfl, B6⟩
            have HB6 := Lib.hid (HB5.out.trans (B6.mono HB5.out.size))
            have HK6 := Lib.hid (HK.out.below' HB6.out)
            clear B6 HB5 HK5 HV HLL
            go_wp2_with fail
            refine (sane_any _ HK6.out).mono ?_
            rintro e w9 ⟨rfl, B9⟩
            have HB9 := Lib.hid (HB6.out.trans (B9.mono HB6.out.size))
            clear B9 HB6 HK6
            go_wp2_with fail
            go_ret
            exact ⟨rfl, HB9.out⟩
          · subst hmn
            rw [apt_eq] at HV ⊢
            rw [show L = N by rw [HLL.out, if_pos (Nat.le_refl _)]]
            go_wp2_with fail
            refine HV.out.mono ?_
            rintro e w6 ⟨rfl, B6⟩
            have HB6 := Lib.hid (HB5.out.trans (B6.mono HB5.out.size))
            have HK6 := Lib.hid (HK.out.below' HB6.out)
            clear B6 HB5 HK5 HV HLL
            go_wp2_with fail
            refine (sane_any _ HK6.out).mono ?_
            rintro e w9 ⟨rfl, B9⟩
            have HB9 := Lib.hid (HB6.out.trans (B9.mono HB6.out.size))
            clear B9 HB6 HK6
            go_wp2_with fail
            go_ret
            exact ⟨rfl, HB9.out⟩
          · have hmi : (k : Int) < (N : Int) := by omega
            have hmj : ¬ (N : Int) < (k : Int) := by omega
            have hmk : ¬ (N : Int) = (k : Int) := by omega
            have hml : ¬ N ≤ k := by omega
            rw [apt_ge (Nat.le_of_lt hmn)] at HV ⊢
            rw [show L = N by rw [HLL.out, if_neg hml]]
            go_wp2_with fail
            refine HV.out.mono ?_
            rintro e w6 ⟨rfl, B6⟩
            have HB6 := Lib.hid (HB5.out.trans (B6.mono HB5.out.size))
            have HK6 := Lib.hid (HK.out.below' HB6.out)
            clear B6 HB5 HK5 HV HLL
            go_wp2_with fail
            refine (sane_any _ HK6.out).mono ?_
            rintro e w9 ⟨rfl, B9⟩
            have HB9 := Lib.hid (HB6.out.trans (B9.mono HB6.out.size))
            clear B9 HB6 HK6
            go_wp2_with fail
            go_ret
            exact ⟨rfl, HB9.out⟩
end Go.Proofs.YtbdiilkdajadcaaDoor
