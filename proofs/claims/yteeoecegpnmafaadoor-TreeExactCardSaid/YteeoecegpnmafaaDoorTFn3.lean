/-
  Stage 10: the program's Beyond.
-/
import Derived.Test.YteeoecegpnmafaaDoorTFn2
set_option linter.unusedSimpArgs false
set_option linter.unusedVariables false
namespace Go.Proofs.YteeoecegpnmafaaDoor
open Go.RowKit Go.Lib

set_option maxHeartbeats 1600000 in
theorem beyond_any (l : List El) (A : Option Addr) (c : Nat) (i : Int) (w : World) (H : LRow w A c l) :
    Calls Tryd.prog 20 #[.slice A l.length c, .int .i64 i] w (PairPost (pairE (chkZ l [i]) (byZ l i)) (chkZ l [i]) w) := by
  have HC := Lib.hid (check_any l A c (some ⟨w.heap.size, 0, none⟩) 1 [i] _ (H.alloc (.cells #[.int .i64 i] 3)) (rowLaid w [i]) (by show 1 ≤ 1000; decide))
  have HH := Lib.hid H
  clear H
  go_enter Tryd.func20, Tryd.ntmps20
  go_wp2_with fail
  refine HC.out.mono ?_
  rintro e w1 ⟨rfl, B1⟩
  have B := Lib.hid (below1 B1)
  clear B1 HC
  by_cases he : chkZ l [i] = 0
  · obtain ⟨p1, p2, p3⟩ := valid_par (chk_ok he).1
    have HE0 := Lib.hid (show pairE (chkZ l [i]) (byZ l i) = byZ l i ∧ chkZ l [i] = 0 from ⟨if_pos he, he⟩)
    obtain ⟨P, hP⟩ : ∃ P : Nat → Bool, P = fun (k : Nat) => isTrk l k && (onZ l k).getD i.toNat false := ⟨_, rfl⟩
    have HP := Lib.hid hP
    have hii := (chk_ok he).2 i (List.mem_cons_self ..)
    obtain ⟨a, rfl⟩ := Int.eq_ofNat_of_zero_le hii.1
    have HPP := Lib.hid p1
    have haL : (a : Int) < (l.length : Int) := hii.2
    have h128 := Lib.hid p3
    clear hP hii
    have hmk := fun w => make_bools w l.length (by omega)
    have HS := Lib.hid (replB w1 l.length P)
    obtain ⟨g, hg⟩ : ∃ g, g = w1.heap.size := ⟨_, rfl⟩
    have hwg : w.heap.size ≤ g := by have := B.out.size; omega
    have B2 := Lib.hid (B.out.alloc B.out.size (.cells ((List.replicate l.length false).map Value.bool).toArray 4))
    obtain ⟨L, hL⟩ : ∃ n, n = l.length := ⟨_, rfl⟩
    have HL := Lib.hid hL
    rw [he]
    rw [← hL] at hmk HS B2 p3 haL ⊢
    rw [← hg] at HS
    clear he p1 p2 hL
    generalize hW : w1.alloc (.cells ((List.replicate L false).map Value.bool).toArray 4) = W2 at HS B2
    have hmk1 := hmk w1
    rw [hW, ← hg] at hmk1
    clear hmk hW hg
    go_wp2_with fail
    go_loopw [22] (fun iv wr => ∃ k : Nat, k ≤ L ∧ iv = .int .i64 (k : Int) ∧ Hid (BSet wr g (parB L P k)) ∧ Hid (Below w.heap.size w wr)) (fun iv _ => L - (intOf iv).toNat)
    case atStart => exact ⟨0, by omega, rfl, HS, B2⟩
    case round =>
      clear HS B2 hmk1
      obtain ⟨k, hk, rfl, S, Bw⟩ := hrel
      by_cases hlt : k < L
      · obtain ⟨x, hx, _, _⟩ := drop_ex (l := l) (k := k) (by rw [← HL.out]; exact hlt)
        obtain ⟨ad, rfl, C⟩ := (HH.out.below Bw.out).row.at_ hx
        obtain ⟨c0, c1, c2, c3, c4, c5, c6, c7⟩ := ESpelt.of C
        have HX := Lib.hid (kind_get hx)
        have S1 := Lib.hid (S.out.alloc (.cells #[.int .i64 x.kind, .string x.name, .int .i64 x.par, .int .i64 x.side, .int .i64 x.len, .int .i64 x.gra, .int .i64 x.cur, .int .i64 x.pow] 37))
        have d := S1.out.cell k (by rw [parB_len]; exact hlt)
        have fz := S1.out.frozen k
        have S2 := Lib.hid (S1.out.set k (P k))
        rw [parB_set] at S2
        have B3 := Lib.hid ((Bw.out.alloc Bw.out.size (.cells #[.int .i64 x.kind, .string x.name, .int .i64 x.par, .int .i64 x.side, .int .i64 x.len, .int .i64 x.gra, .int .i64 x.cur, .int .i64 x.pow] 37)).setCell (p := ⟨g, k, none⟩) hwg (.bool (P k)))
        have c0' := S1.out
        by_cases h4 : x.kind = 4
        · have hbk : (x.kind == 4) = true := by rw [h4]; rfl
          have hPk : P k = (onZ l (k : Int)).getD a false := by
            rw [HP.out]
            show (decide (kindA l (k : Int) = 4) && _) = _
            rw [HX.out, decide_eq_true h4, Bool.true_and]; rfl
          have HPK := Lib.hid hPk
          have HON := Lib.hid (onpath_any l (some ad) c HPP.out h128.out _ (k : Int) (wr.alloc (.cells #[.int .i64 x.kind, .string x.name, .int .i64 x.par, .int .i64 x.side, .int .i64 x.len, .int .i64 x.gra, .int .i64 x.cur, .int .i64 x.pow] 37)) ((HH.out.below Bw.out).row.alloc _) (by omega) (by have := HL.out; omega) (Nat.le_refl _))
          rw [← HL.out] at HON
          have HOS := Lib.hid (onZ_spec HPP.out (show (k : Int) < (l.length : Int) by have := HL.out; omega)).1
          have Bw2 := Lib.hid (Bw.out.alloc Bw.out.size (.cells #[.int .i64 x.kind, .string x.name, .int .i64 x.par, .int .i64 x.side, .int .i64 x.len, .int .i64 x.gra, .int .i64 x.cur, .int .i64 x.pow] 37))
          clear C hx S Bw d fz S2 B3 c0' h4 hPk
          go_wp2_with fail
          refine HON.out.mono ?_
          rintro e w3 ⟨gs, hgs, hgw, SS, BB⟩
          rw [← HL.out] at hgs
          subst hgs
          have q := SS.cell a (by rw [HOS.out]; have := HL.out; omega)
          rw [← HPK.out] at q
          have S3 := Lib.hid (S1.out.below BB)
          have d := S3.out.cell k (by rw [parB_len]; exact hlt)
          have fz := S3.out.frozen k
          have S4 := Lib.hid (S3.out.set k (P k))
          rw [parB_set] at S4
          have B4 := Lib.hid ((Bw2.out.trans (BB.mono Bw2.out.size)).setCell (p := ⟨g, k, none⟩) hwg (.bool (P k)))
          clear SS BB S1 c0 c1 c2 c3 c4 c5 c6 c7
          go_wp2_with fail
          go_roundw
          case rel => exact ⟨k + 1, by omega, by go_num, S4, B4⟩
          case measure => simp [intOf]; omega
        · have hbk : (x.kind == 4) = false := beq_eq_false_iff_ne.2 h4
          have hPk : P k = false := by
            rw [HP.out]
            show (decide (kindA l (k : Int) = 4) && _) = _
            rw [HX.out, decide_eq_false h4, Bool.false_and]
          rw [hPk] at S2 B3
          clear C hx S Bw h4 hPk c0'
          go_wp2_with fail
          go_roundw
          case rel => exact ⟨k + 1, by omega, by go_num, S2, B3⟩
          case measure => simp [intOf]; omega
      · obtain rfl : k = L := by omega
        have hm := members_any (parB k P k) g k wr S.out (by rw [parB_len]; omega)
        rw [parB_len, memZ_par] at hm
        have HM := Lib.hid hm
        clear hm
        go_wp2_with fail
        refine HM.out.mono ?_
        rintro e w2 ⟨v, rfl, O, Bm⟩
        have O2 := Lib.hid (O.base Bw.out.size)
        have B3 := Lib.hid (Bw.out.trans (Bm.mono Bw.out.size))
        clear O Bm
        go_wp2_with fail
        go_ret2
        rw [HE0.out.1, HE0.out.2]
        exact ⟨v, rfl, by unfold byZ; rw [← HL.out]; have := O2.out; rw [HP.out] at this; exact this, B3.out⟩
  · have HE := Lib.hid (show pairE (chkZ l [i]) (byZ l i) = [] from if_neg he)
    have hne : (chkZ l [i] != 0) = true := bne_iff_ne.2 he
    clear he
    go_wp2_with fail
    go_ret2
    exact ⟨_, rfl, by rw [HE.out]; exact Own.nil, B.out⟩
end Go.Proofs.YteeoecegpnmafaaDoor
