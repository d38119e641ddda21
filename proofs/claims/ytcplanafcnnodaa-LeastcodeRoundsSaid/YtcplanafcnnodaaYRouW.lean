/-
  Stage 13: the walk of LeastcodeRounds.
-/
import Derived.Test.YtcplanafcnnodaaYLawA
import Derived.Test.YtcplanafcnnodaaJGrow
set_option linter.unusedSimpArgs false
set_option linter.unusedVariables false
namespace Go.Proofs.Ytcplanafcnnodaa
open Go.RowKit Go.Lib

/-- Items of the last round, perhaps behind one of the first. -/
def lastL (p : List It) (n : Nat) : List It := p ++ List.replicate n (0, 0, 12, 100)
theorem lastL_len (p : List It) (n : Nat) : (lastL p n).length = p.length + n := by unfold lastL; simp
theorem lastL_succ (p : List It) (n : Nat) : lastL p (n + 1) = lastL p n ++ [(0, 0, 12, 100)] := by
  unfold lastL; rw [List.replicate_succ', List.append_assoc]
theorem lastL_nil (n : Nat) {x : Nat} (h : x < n) : (lastL [] n).getD x it0 = (0, 0, 12, 100) := by
  unfold lastL; simp [List.getD_eq_getElem?_getD, h]
theorem vw_last {r : Int} (hr : r ≤ 12) : ∀ n, vwI r (List.replicate n (0, 0, 12, 100)) = 0 := by
  intro n
  induction n generalizing r with
  | zero => rfl
  | succ n ih =>
    show (if okI (0, 0, 12, 100) then (if (12 : Int) < r then 12 else vwI 12 (List.replicate n (0, 0, 12, 100))) else 2) = 0
    rw [if_pos (by decide), if_neg (by omega)]
    exact ih (by omega)
theorem last_valid (n : Nat) (hn : n ≤ 5) : validR (lastL [] n) 12 = 0 := by
  unfold validR
  rw [lastL_len, if_neg (by simp; omega), if_pos (by decide)]
  exact vw_last (by decide) n
theorem last_valid1 (n : Nat) (hn : n ≤ 5) : validR (lastL [(0, 1, 0, 100)] n) 12 = 0 := by
  unfold validR
  rw [lastL_len, if_neg (by simp; omega), if_pos (by decide)]
  show (if okI (0, 1, 0, 100) then (if (0 : Int) < 0 then 12 else vwI 0 (List.replicate n (0, 0, 12, 100))) else 2) = 0
  rw [if_pos (by decide), if_neg (by omega)]
  exact vw_last (by decide) n
set_option maxRecDepth 100000 in
theorem next_last : nextZ 0 12 12 = (4095, 0) ∧ ln 4095 = 12 := by decide +kernel
theorem last_least {n : Nat} (hn : 1 ≤ n ∧ n ≤ 5) {st er : Int} {v : List Int} (h : LeastR (lastL [] n) 12 st v er) : er = 0 ∧ st = 12 ∧ v.length = n ∧ ∀ y, y < n → v.getD y 0 = 4095 := by
  have hv := last_valid n hn.2
  have hf := formOk_of hv
  have hl : (lastL [] n).length = n := by rw [lastL_len]; simp
  have hr : ∀ x y, x < n → y < n → rel (lastL [] n) x y = 0 := fun x y hx hy => rel_ge (by unfold blk; rw [lastL_nil n hx, lastL_nil n hy]; exact Int.le_refl _)
  have hS : Sol (lastL [] n) 12 (List.replicate n 0) (List.replicate n 4095) := by
    have e4 : ∀ y, y < n → (List.replicate n (4095 : Int)).getD y 0 = 4095 := fun y hy => by simp [List.getD_eq_getElem?_getD, hy]
    refine ⟨by rw [hl]; simp, by rw [hl]; simp, fun _ h => h, fun x y _ hx _ => hx, fun y hy => ?_, fun y hy => ?_, fun y hy => ?_⟩
    · rw [hl] at hy
      rw [getD_zeros]
      exact ⟨Int.le_refl _, fun x hx => by
        have hx : x < n := by rw [← hl]; exact hx
        show via _ _ x y ≤ 0
        rw [via_zero (hr x y hx hy)]; exact Int.le_refl _, Or.inl rfl⟩
    · rw [hl] at hy
      rw [getD_zeros, e4 y hy]
      have e : rnd (lastL [] n) y = 12 := by unfold rnd; rw [lastL_nil n hy]
      rw [e]; exact next_last.1
    · rw [hl] at hy
      exact ⟨by rw [List.getD_eq_getElem?_getD, List.getElem?_eq_none (by simp; omega)]; rfl, getD_zeros _ _⟩
  rcases h.valid hv with ⟨_, _, _, hno⟩ | ⟨rfl, bs, hs, hst⟩
  · exact absurd hS (hno _ _)
  · obtain ⟨rfl, rfl⟩ := hs.uniq hf.blk hS
    have e4 : ∀ y, y < n → (List.replicate n (4095 : Int)).getD y 0 = 4095 := fun y hy => by simp [List.getD_eq_getElem?_getD, hy]
    refine ⟨rfl, ?_, by simp, e4⟩
    have hT : TopV (List.replicate n (4095 : Int)) (List.replicate n (4095 : Int)).length 4095 := ⟨fun x hx => by rw [e4 x (by simpa using hx)]; exact Int.le_refl _, 0, by simp; omega, e4 0 (by omega)⟩
    rcases hst with ⟨e, _⟩ | ⟨M, hM, rfl⟩
    · have := congrArg List.length e; simp at this; omega
    · rw [hM.uniq hT]
      exact congrArg Nat.cast next_last.2
theorem last_none {n : Nat} (hn : 1 ≤ n ∧ n ≤ 5) {st er : Int} {v : List Int} (h : LeastR (lastL [(0, 1, 0, 100)] n) 12 st v er) : er = 15 := by
  have hv := last_valid1 n hn.2
  have hf := formOk_of hv
  have hl : (lastL [(0, 1, 0, 100)] n).length = 1 + n := by rw [lastL_len]; simp
  rcases h.valid hv with ⟨h1, _⟩ | ⟨rfl, bs, hs, _⟩
  · exact h1
  · exfalso
    obtain ⟨m, rfl⟩ : ∃ m, n = m + 1 := ⟨n - 1, by omega⟩
    have hp := hs.plan hf
    obtain ⟨K, hK, hc⟩ := hp.code 1 (by rw [hl]; omega)
    have e : rnd (lastL [(0, 1, 0, 100)] (m + 1)) 1 = 12 := rfl
    rw [e] at hc
    have h2 := (isC_iff.1 hc).1
    have h3 := (isC_iff.1 hc).2.1
    have h4 : K % 4096 = 4095 := h3
    have h5 := hp.sort 1 0 (by rw [hl]; omega) (by rw [hl]; omega)
    have e2 : via (lastL [(0, 1, 0, 100)] (m + 1)) v 1 0 = v.getD 1 0 + 1 := rfl
    have h6 := (hs.bound hf 0).1.2
    omega
set_option maxRecDepth 100000 in
set_option maxHeartbeats 3200000 in
theorem rou_walk (n : Int) (bh : Bool) (w : World) (hn1 : -9223372036854775808 ≤ n) (hn2 : n ≤ 9223372036854775807) :
    Calls Try.prog 4 #[.int .i64 n, .bool bh] w fun e w' => e = .returned (.bool true) ∧ Below w.heap.size w w' := by
  obtain ⟨i0, hi, hz0, hz1, hz2⟩ := info_parts infoIt
  have a1 := tmod_bd n 5 (by decide)
  have c1 := Int.emod_nonneg (n.tmod 5 + 5) (show (5 : Int) ≠ 0 by decide)
  have c2 := Int.emod_lt_of_pos (n.tmod 5 + 5) (show (0 : Int) < 5 by decide)
  have hz5 : (n.tmod 5 + 5).tmod 5 = (n.tmod 5 + 5) % 5 := by rw [Int.tmod_eq_emod_of_nonneg (by omega)]
  obtain ⟨M, hM⟩ := Int.eq_ofNat_of_zero_le c1
  have hM' : n.tmod 5 % 5 = (M : Int) := by omega
  go_enter Try.func4, Try.ntmps4
  go_upto_region 2 with fail
  obtain ⟨N, hNM⟩ : ∃ N, N = M + 1 := ⟨_, rfl⟩
  have hN' : (1 : Int) + (M : Int) = (N : Int) := by omega
  try rw [hN']
  have hN1 : 1 ≤ N ∧ N ≤ 5 := by omega
  clear hN' hM c1 c2 hz5
  generalize n.tmod 5 = tn at *
  clear a1
  have T0 := Lib.hid (show TSt w (w.alloc (.cells #[.slice none 0 0, .int .i64 12] 24)) w.heap.size (w.heap.size + 1) none 0 12 [] (.slice none 0 0) [] from
    ⟨JBox.new _ rfl, fun j => frozen_new _ _ _ _ _ rfl, IOwn.nil, Own.nil, (fun g hg => absurd hg (by simp [Value.ownBlock])), (Below.refl _ _).alloc (Nat.le_refl _) _, Nat.lt_succ_self _, by simp⟩)
  obtain ⟨bp, hbp⟩ : ∃ x, x = w.heap.size := ⟨_, rfl⟩
  clear hNM hM'
  go_upto_region 3 with fail
  rw [← hbp] at T0 ⊢
  generalize w.alloc (.cells #[.slice none 0 0, .int .i64 12] 24) = w1 at *
  have HBP := Lib.hid hbp
  clear hbp
  cases bh with
  | false =>
    have HT0 := Lib.hid (show TSt w w1 bp (bp + 1) none 0 12 (lastL [] 0) (.slice none 0 0) [] from T0.out)
    clear T0
    go_wp2_with fail
    go_loopw [6] (fun iv wr => ∃ (i : Nat) (Ap : Option Addr) (cp : Nat), i ≤ N ∧ iv = .int .i64 (i : Int) ∧ Hid (TSt w wr bp (bp + 1) Ap cp 12 (lastL ([] : List It) i) (.slice none 0 0) [])) (fun iv _ => N - (intOf iv).toNat)
    case atStart => exact ⟨0, _, _, by omega, rfl, HT0⟩
    case round =>
      clear HT0
      obtain ⟨i, Ap, cp, hi', rfl, T⟩ := hrel
      have HSI := Lib.hid (lastL_succ ([] : List It) i)
      have HLL := Lib.hid (show i = (lastL ([] : List It) i).length by rw [lastL_len]; simp; try omega)
      by_cases hlt : i < N
      · obtain ⟨ps, hps⟩ : ∃ ps, ps = lastL ([] : List It) i := ⟨_, rfl⟩
        rw [← hps] at T HSI HLL
        obtain ⟨j0, j1, jl⟩ := T.out.box
        obtain ⟨K, hK⟩ : ∃ K, K = ps.length := ⟨_, rfl⟩
        have HPL := Lib.hid hK
        rw [← hK] at j0 HLL
        have hKb : K ≤ 6 := by have := HLL.out; omega
        clear hps hK
        go_wp2_with (first
          | (at_builtin; refine wpList_append_lies _ rfl (.tmp 30) (.tmp 32) 22 rfl (bp + 1) 26 i0 (.agg #[.int .i64 0, .int .i64 0, .int .i64 0, .int .i64 0]) 4 32 Try.underlying22 hi hz0 hz1 hz2 rfl (by decide) _ K ((flatI ps).map (Value.int .i64)) rfl (show World.ownsRow _ (bp + 1) 26 4 (.slice Ap K cp) K ((flatI ps).map (Value.int .i64)) from by have := T.out.its; unfold IOwn Flat at this; rw [← HPL.out] at this; exact World.ownsRow.alloc this _) ⟨wr.heap.size, 0, none⟩ 1 1 ((flatI [(0, 0, 12, 100)]).map (Value.int .i64)) rfl rfl (news_int (W := wr) (ys := flatI [(0, 0, 12, 100)])) (one_cells (ys := flatI [(0, 0, 12, 100)])) (by decide) (by unfold maxLen; omega) (by omega) (by have := T.out.le; simp only [World.size_alloc]; omega) _ rfl ?_; intro g7 cap w8 hown hgr hat hlt2; rw [HPL.out] at hown hgr hat; have AP := IOwn.app (l := ps) (m := [(0, 0, 12, 100)]) hown rfl rfl; have hT2 := (T.out.below ((Below.refl _ _).alloc (Nat.le_refl _) (.cells #[.int .i64 0, .int .i64 0, .int .i64 12, .int .i64 100] 26))).app (p := (0, 0, 12, 100)) (by rw [List.length_append]; exact AP) hgr hat; obtain ⟨T2, ⟨u, hu⟩, hfu⟩ := hT2; simp only [List.length_append, List.length_cons, List.length_nil, Nat.zero_add] at T2; rw [← HPL.out] at T2; have HT2 := Lib.hid T2; clear hown hgr hat hlt2 AP T2))
        go_roundw
        case rel => exact ⟨i + 1, some ⟨g7, 0, none⟩, cap, by omega, by go_num, by rw [HSI.out]; exact HT2⟩
        case measure => simp [intOf]; omega
      · obtain rfl : i = N := by omega
        obtain ⟨K, hK⟩ : ∃ K, K = (lastL ([] : List It) i).length := ⟨_, rfl⟩
        have HLA := Lib.hid (least_any (lastL ([] : List It) i) Ap cp K 12 hK wr T.out.its.irow)
        obtain ⟨j0, j1, jl⟩ := T.out.box
        rw [← hK] at j0
        clear hK hlt
        go_wp2_with fail
        refine HLA.out.mono ?_
        rintro e w2 ⟨st, pA, pn, pc, er, v, rfl, O, B2, hr⟩
        have HR := Lib.hid (last_least hN1 hr)
        obtain ⟨g1, hg1⟩ : ∃ g, g = w2.heap.size := ⟨_, rfl⟩
        have BX := (Below.refl w2.heap.size w2).alloc (Nat.le_refl _) (.cells #[.int .i64 st, .slice pA pn pc] 29)
        have P1 := Lib.hid (PBox.new (w := w2) (st := st) (A := pA) (n := pn) (c := pc) g1 hg1)
        obtain ⟨pA', pc', ev, LR, -, -, -⟩ := O.slice
        obtain rfl : pA = pA' := by injection ev
        have HPN := Lib.hid (show pn = v.length by injection ev)
        have HRow := Lib.hid (LR.below BX)
        have T2 := Lib.hid ((T.out.below B2).below BX)
        have HB := Lib.hid (show Below w.heap.size w _ by rw [← HBP.out]; exact T2.out.bel)
        clear j0 j1 jl T O B2 hr BX ev LR HLA pc'
        go_upto_region 12 with fail
        rw [← hg1]
        generalize w2.alloc (.cells #[.int .i64 st, .slice pA pn pc] 29) = w3 at *
        clear hg1
        obtain ⟨her, hst, hvl, hvv⟩ := HR.out
        subst her
        subst hst
        have hpn : pn = i := by rw [HPN.out, hvl]
        subst hpn
        have HVV := Lib.hid hvv
        have HVL := Lib.hid hvl
        have hne : ((pn : Int) != (pn : Int)) = false := by simp
        obtain ⟨p0, p1, pf, pl⟩ := P1.out
        clear HR hvv hvl pf
        go_wp2_with fail
        go_loopw [63] (fun iv wr => ∃ k : Nat, k ≤ pn ∧ iv = .int .i64 (k : Int) ∧ Hid (wr = w3)) (fun iv _ => pn - (intOf iv).toNat)
        case atStart => exact ⟨0, by omega, rfl, Lib.hid rfl⟩
        case round =>
          obtain ⟨k, hk, rfl, HW⟩ := hrel
          obtain rfl := HW.out
          by_cases hlk : k < pn
          · obtain ⟨pad, rfl, _, ck⟩ := HRow.out k (by rw [HVL.out]; exact hlk)
            rw [HVV.out k hlk] at ck
            have hki : (k : Int) < (pn : Int) := by omega
            go_wp2_with fail
            go_roundw
            case rel => exact ⟨k + 1, by omega, by go_num, Lib.hid trivial⟩
            case measure => simp [intOf]; omega
          · go_wp2_with fail
            refine (sane13_any wr).mono ?_
            rintro e wz ⟨rfl, BZ⟩
            have HZ := Lib.hid (HB.out.trans (BZ.mono HB.out.size))
            clear BZ
            go_wp2_with fail
            go_ret
            exact ⟨rfl, HZ.out⟩
  | true =>
    have hp0 : w1.cell? ⟨bp, 0, none⟩ = some (.slice none 0 0) := T0.out.box.c0
    go_wp2_with (first
      | (at_builtin; refine wpList_append_lies _ rfl (.tmp 19) (.tmp 21) 22 rfl (bp + 1) 26 i0 (.agg #[.int .i64 0, .int .i64 0, .int .i64 0, .int .i64 0]) 4 32 Try.underlying22 hi hz0 hz1 hz2 rfl (by decide) _ 0 ((flatI []).map (Value.int .i64)) rfl (show World.ownsRow _ (bp + 1) 26 4 (.slice none 0 0) 0 ((flatI []).map (Value.int .i64)) from by have := T0.out.its; unfold IOwn Flat at this; exact World.ownsRow.alloc this _) ⟨w1.heap.size, 0, none⟩ 1 1 ((flatI [(0, 1, 0, 100)]).map (Value.int .i64)) rfl rfl (news_int (W := w1) (ys := flatI [(0, 1, 0, 100)])) (one_cells (ys := flatI [(0, 1, 0, 100)])) (by decide) (by unfold maxLen; omega) (by omega) (by have := T0.out.le; simp only [World.size_alloc]; omega) _ rfl ?_; intro g7 cap w8 hown hgr hat hlt2; have AP := IOwn.app (l := []) (m := [(0, 1, 0, 100)]) hown rfl rfl; have hT2 := (T0.out.below ((Below.refl _ _).alloc (Nat.le_refl _) (.cells #[.int .i64 0, .int .i64 1, .int .i64 0, .int .i64 100] 26))).app (p := (0, 1, 0, 100)) (by rw [List.length_append]; exact AP) hgr hat; obtain ⟨T2, ⟨u, hu⟩, hfu⟩ := hT2; simp only [List.length_append, List.length_cons, List.length_nil, Nat.zero_add] at T2; have HT2 := Lib.hid T2; clear hown hgr hat hlt2 AP T2))
    have HT0 := Lib.hid (show TSt w _ bp (bp + 1) (some ⟨g7, 0, none⟩) cap 12 (lastL [(0, 1, 0, 100)] 0) (.slice none 0 0) [] from HT2.out)
    clear T0 HT2 hp0
    go_loopw [6] (fun iv wr => ∃ (i : Nat) (Ap : Option Addr) (cp : Nat), i ≤ N ∧ iv = .int .i64 (i : Int) ∧ Hid (TSt w wr bp (bp + 1) Ap cp 12 (lastL [(0, 1, 0, 100)] i) (.slice none 0 0) [])) (fun iv _ => N - (intOf iv).toNat)
    case atStart => exact ⟨0, _, _, by omega, rfl, HT0⟩
    case round =>
      clear HT0
      obtain ⟨i, Ap, cp, hi', rfl, T⟩ := hrel
      have HSI := Lib.hid (lastL_succ [(0, 1, 0, 100)] i)
      have HLL := Lib.hid (show i + 1 = (lastL [(0, 1, 0, 100)] i).length by rw [lastL_len]; simp; try omega)
      by_cases hlt : i < N
      · obtain ⟨ps, hps⟩ : ∃ ps, ps = lastL [(0, 1, 0, 100)] i := ⟨_, rfl⟩
        rw [← hps] at T HSI HLL
        obtain ⟨j0, j1, jl⟩ := T.out.box
        obtain ⟨K, hK⟩ : ∃ K, K = ps.length := ⟨_, rfl⟩
        have HPL := Lib.hid hK
        rw [← hK] at j0 HLL
        have hKb : K ≤ 6 := by have := HLL.out; omega
        clear hps hK
        go_wp2_with (first
          | (at_builtin; refine wpList_append_lies _ rfl (.tmp 30) (.tmp 32) 22 rfl (bp + 1) 26 i0 (.agg #[.int .i64 0, .int .i64 0, .int .i64 0, .int .i64 0]) 4 32 Try.underlying22 hi hz0 hz1 hz2 rfl (by decide) _ K ((flatI ps).map (Value.int .i64)) rfl (show World.ownsRow _ (bp + 1) 26 4 (.slice Ap K cp) K ((flatI ps).map (Value.int .i64)) from by have := T.out.its; unfold IOwn Flat at this; rw [← HPL.out] at this; exact World.ownsRow.alloc this _) ⟨wr.heap.size, 0, none⟩ 1 1 ((flatI [(0, 0, 12, 100)]).map (Value.int .i64)) rfl rfl (news_int (W := wr) (ys := flatI [(0, 0, 12, 100)])) (one_cells (ys := flatI [(0, 0, 12, 100)])) (by decide) (by unfold maxLen; omega) (by omega) (by have := T.out.le; simp only [World.size_alloc]; omega) _ rfl ?_; intro g7 cap w8 hown hgr hat hlt2; rw [HPL.out] at hown hgr hat; have AP := IOwn.app (l := ps) (m := [(0, 0, 12, 100)]) hown rfl rfl; have hT2 := (T.out.below ((Below.refl _ _).alloc (Nat.le_refl _) (.cells #[.int .i64 0, .int .i64 0, .int .i64 12, .int .i64 100] 26))).app (p := (0, 0, 12, 100)) (by rw [List.length_append]; exact AP) hgr hat; obtain ⟨T2, ⟨u, hu⟩, hfu⟩ := hT2; simp only [List.length_append, List.length_cons, List.length_nil, Nat.zero_add] at T2; rw [← HPL.out] at T2; have HT2 := Lib.hid T2; clear hown hgr hat hlt2 AP T2))
        go_roundw
        case rel => exact ⟨i + 1, some ⟨g7, 0, none⟩, cap, by omega, by go_num, by rw [HSI.out]; exact HT2⟩
        case measure => simp [intOf]; omega
      · obtain rfl : i = N := by omega
        obtain ⟨K, hK⟩ : ∃ K, K = (lastL [(0, 1, 0, 100)] i).length := ⟨_, rfl⟩
        have HLA := Lib.hid (least_any (lastL [(0, 1, 0, 100)] i) Ap cp K 12 hK wr T.out.its.irow)
        obtain ⟨j0, j1, jl⟩ := T.out.box
        rw [← hK] at j0
        clear hK hlt
        go_wp2_with fail
        refine HLA.out.mono ?_
        rintro e w2 ⟨st, pA, pn, pc, er, v, rfl, O, B2, hr⟩
        have HR := Lib.hid (last_none hN1 hr)
        obtain ⟨g1, hg1⟩ : ∃ g, g = w2.heap.size := ⟨_, rfl⟩
        have BX := (Below.refl w2.heap.size w2).alloc (Nat.le_refl _) (.cells #[.int .i64 st, .slice pA pn pc] 29)
        have P1 := Lib.hid (PBox.new (w := w2) (st := st) (A := pA) (n := pn) (c := pc) g1 hg1)
        obtain ⟨pA', pc', ev, LR, -, -, -⟩ := O.slice
        obtain rfl : pA = pA' := by injection ev
        have HPN := Lib.hid (show pn = v.length by injection ev)
        have HRow := Lib.hid (LR.below BX)
        have T2 := Lib.hid ((T.out.below B2).below BX)
        have HB := Lib.hid (show Below w.heap.size w _ by rw [← HBP.out]; exact T2.out.bel)
        clear j0 j1 jl T O B2 hr BX ev LR HLA pc'
        go_upto_region 11 with fail
        rw [← hg1]
        generalize w2.alloc (.cells #[.int .i64 st, .slice pA pn pc] 29) = w3 at *
        clear hg1
        have her := HR.out
        subst her
        go_wp2_with fail
        refine (sane13_any w3).mono ?_
        rintro e wz ⟨rfl, BZ⟩
        have HZ := Lib.hid (HB.out.trans (BZ.mono HB.out.size))
        clear BZ
        go_wp2_with fail
        go_ret
        exact ⟨rfl, HZ.out⟩
theorem rou_law (n : Int) (bh : Bool) (w : World) (hn1 : -9223372036854775808 ≤ n) (hn2 : n ≤ 9223372036854775807) :
    Calls Try.prog 4 #[.int .i64 n, .bool bh] w fun e w' => e = .returned (.bool true) ∧ Below w.heap.size w w' := rou_walk n bh w hn1 hn2
end Go.Proofs.Ytcplanafcnnodaa
