/-
  Stage 11: the walk of JobLimits.
-/
import Derived.Test.YthedalfokekbkaaJTrW
set_option linter.unusedSimpArgs false
set_option linter.unusedVariables false
namespace Go.Proofs.Ythedalfokekbkaa
open Go.RowKit Go.Lib

/-- The block of item x. -/
def limB (B : Int) (x : Nat) : Int := max2 0 (B - 1 - x)
def limL (B : Int) (n : Nat) : List It := (List.range n).map fun x => (15, limB B x, 12, 400)
theorem limL_len (B : Int) (n : Nat) : (limL B n).length = n := by unfold limL; simp
theorem limL_succ (B : Int) (n : Nat) : limL B (n + 1) = limL B n ++ [(15, limB B n, 12, 400)] := by
  unfold limL; rw [List.range_succ, List.map_append]; rfl
theorem limL_at (B : Int) (n : Nat) {x : Nat} (h : x < n) : (limL B n).getD x it0 = (15, limB B x, 12, 400) := by
  unfold limL; simp [List.getD_eq_getElem?_getD, h]
theorem lim_trn (B : Int) (n : Nat) {x : Nat} (h : x < n) : trn (limL B n) x = 15 := by unfold trn; rw [limL_at B n h]
theorem lim_blk (B : Int) (n : Nat) {x : Nat} (h : x < n) : blk (limL B n) x = limB B x := by unfold blk; rw [limL_at B n h]
theorem limB_cases (B : Int) (x : Nat) : (limB B x = B - 1 - x ∧ 0 < B - 1 - x) ∨ (limB B x = 0 ∧ B - 1 - x ≤ 0) := by
  unfold limB max2
  by_cases h : 0 < B - 1 - (x : Int)
  · rw [if_pos h]; exact Or.inl ⟨rfl, h⟩
  · rw [if_neg h]; exact Or.inr ⟨rfl, by omega⟩
theorem vw_all {r : Int} {l : List It} (h : ∀ p ∈ l, okI p ∧ p.2.2.1 = 12) (hr : r ≤ 12) : vwI r l = 0 := by
  induction l generalizing r with
  | nil => rfl
  | cons p l ih =>
    obtain ⟨h1, h2⟩ := h p (List.mem_cons_self ..)
    show (if okI p then (if p.2.2.1 < r then 12 else vwI p.2.2.1 l) else 2) = 0
    rw [if_pos h1, if_neg (by omega)]
    exact ih (fun q hq => h q (List.mem_cons_of_mem _ hq)) (by omega)
theorem lim_valid {B : Int} (hB : 1 ≤ B ∧ B ≤ 32) {n : Nat} (hn : n ≤ 96) : validR (limL B n) 12 = 0 := by
  unfold validR
  rw [limL_len, if_neg (by omega), if_pos (by decide)]
  refine vw_all (fun p hp => ?_) (by decide)
  unfold limL at hp
  obtain ⟨x, _, rfl⟩ := List.mem_map.1 hp
  refine ⟨?_, rfl⟩
  show (0 ≤ (15 : Int) ∧ (15 : Int) ≤ 15) ∧ (0 ≤ limB B x ∧ limB B x ≤ 31) ∧ (0 ≤ (12 : Int) ∧ (12 : Int) ≤ 12) ∧ (1 ≤ (400 : Int) ∧ (400 : Int) ≤ 400)
  rcases limB_cases B x with h | h <;> omega
theorem lim_many {B : Int} {n : Nat} (hn : 96 < n) : validR (limL B n) 12 = 3 := by
  unfold validR
  rw [limL_len, if_pos hn]
theorem lim_lev {B : Int} (hB : 1 ≤ B ∧ B ≤ 32) {n : Nat} (hn : 33 ≤ n) : Lev (limL B n) ((List.range n).map (limB B)) := by
  have hv : ∀ x, x < n → ((List.range n).map (limB B)).getD x 0 = limB B x := fun x hx => by simp [List.getD_eq_getElem?_getD, hx]
  refine ⟨by simp [limL], fun y hy => ?_⟩
  rw [limL_len] at hy ⊢
  rw [hv y hy]
  have hrel : ∀ x, x < n → rel (limL B n) x y ≠ 0 → limB B x < limB B y ∧ y < x := fun x hx hr => by
    have h1 := (rel_pos hr).2
    rw [lim_blk B n hx, lim_blk B n hy] at h1
    refine ⟨h1, ?_⟩
    rcases limB_cases B x with h2 | h2 <;> rcases limB_cases B y with h3 | h3 <;> omega
  refine ⟨by rcases limB_cases B y with h | h <;> omega, fun x hx => ?_, ?_⟩
  · show via (limL B n) _ x y ≤ _
    by_cases g : rel (limL B n) x y = 0
    · rw [via_zero g]; rcases limB_cases B y with h | h <;> omega
    · rw [via_pos g, hv x hx]
      have := (hrel x hx g).1
      rcases rel_cases (limL B n) x y with c | c | c <;> omega
  · rcases limB_cases B y with h | h
    · right
      have hy1 : y + 1 < n := by omega
      have h2 : limB B (y + 1) = limB B y - 1 := by
        rcases limB_cases B (y + 1) with k | k <;> omega
      have g : rel (limL B n) (y + 1) y = 2 := by
        unfold rel
        rw [lim_trn B n hy1, lim_trn B n hy, lim_blk B n hy1, lim_blk B n hy, if_neg (by omega), if_pos (by omega)]
      refine ⟨y + 1, hy1, ?_⟩
      show via (limL B n) _ (y + 1) y = _
      rw [via_pos (by omega), hv _ hy1, g, h2]; omega
    · left; exact h.1
set_option maxRecDepth 100000 in
set_option maxHeartbeats 3200000 in
theorem limits_walk (n bl : Int) (w : World) (hn1 : -9223372036854775808 ≤ n) (hn2 : n ≤ 9223372036854775807) (hb1 : -9223372036854775808 ≤ bl) (hb2 : bl ≤ 9223372036854775807) :
    Calls Try.prog 3 #[.int .i64 n, .int .i64 bl] w fun e w' => e = .returned (.bool true) ∧ Below w.heap.size w w' := by
  obtain ⟨i0, hi, hz0, hz1, hz2⟩ := info_parts infoIt
  have a1 := tmod_bd n 3 (by decide)
  have a3 := tmod_bd bl 32 (by decide)
  obtain ⟨N, hN⟩ := Int.eq_ofNat_of_zero_le (show 0 ≤ 95 + n.tmod 3 % 3 by omega)
  have hN1 : 95 ≤ N ∧ N ≤ 97 := by omega
  obtain ⟨Bl, hBl⟩ : ∃ x, x = 1 + bl.tmod 32 % 32 := ⟨_, rfl⟩
  have hB1 : 1 ≤ Bl ∧ Bl ≤ 32 := by omega
  go_enter Try.func3, Try.ntmps3
  go_upto_region 2 with fail
  rw [← hBl]
  generalize n.tmod 3 = tn at *
  generalize bl.tmod 32 = tb at *
  clear hN hBl a1 a3
  generalize (tn + 3) % 3 = d1
  generalize (tb + 32) % 32 = d2
  generalize tn + 3 = d3
  generalize tb + 32 = d4
  have T0 := Lib.hid (show TSt w (w.alloc (.cells #[.slice none 0 0, .int .i64 12] 24)) w.heap.size (w.heap.size + 1) none 0 12 [] (.slice none 0 0) [] from
    ⟨JBox.new _ rfl, fun j => frozen_new _ _ _ _ _ rfl, IOwn.nil, Own.nil, (fun g hg => absurd hg (by simp [Value.ownBlock])), (Below.refl _ _).alloc (Nat.le_refl _) _, Nat.lt_succ_self _, by simp⟩)
  obtain ⟨bp, hbp⟩ : ∃ x, x = w.heap.size := ⟨_, rfl⟩
  go_upto_region 3 with fail
  rw [← hbp] at T0 ⊢
  generalize w.alloc (.cells #[.slice none 0 0, .int .i64 12] 24) = w1 at *
  have HT0 := Lib.hid (show TSt w w1 bp (bp + 1) none 0 12 (limL Bl 0) (.slice none 0 0) [] from T0.out)
  have HBP := Lib.hid hbp
  clear T0 hbp
  go_wp2_with fail
  go_loopw [6] (fun iv wr => ∃ (i : Nat) (Ap : Option Addr) (cp : Nat), i ≤ N ∧ iv = .int .i64 (i : Int) ∧ Hid (TSt w wr bp (bp + 1) Ap cp 12 (limL Bl i) (.slice none 0 0) [])) (fun iv _ => N - (intOf iv).toNat)
  case atStart => exact ⟨0, none, 0, by omega, rfl, HT0⟩
  case round =>
    clear HT0
    obtain ⟨i, Ap, cp, hi', rfl, T⟩ := hrel
    by_cases hlt : i < N
    · obtain ⟨j0, j1, jl⟩ := T.out.box
      have HLL := Lib.hid (limL_len Bl i)
      obtain ⟨mb, hmb⟩ : ∃ m, m = max2 0 (Bl - 1 - (i : Int)) := ⟨_, rfl⟩
      have hmx : ∀ w ts t, (Builtin.max_ ts t #[.int .i64 0, .int .i64 (Bl - 1 - (i : Int))]).run Try.prog w = .ok (.int .i64 mb) w := fun w ts t => by rw [run_max2, hmb]
      have HSI := Lib.hid (show limL Bl (i + 1) = limL Bl i ++ [(15, mb, 12, 400)] by rw [limL_succ, hmb]; rfl)
      have hlt' : (i : Int) < (N : Int) := by omega
      rw [HLL.out] at j0
      obtain ⟨ps, hps⟩ : ∃ ps, ps = limL Bl i := ⟨_, rfl⟩
      rw [← hps] at T HLL HSI
      have HPL := Lib.hid (show i = ps.length from HLL.out.symm)
      clear hmb hps
      go_wp2_with (first
        | (at_builtin; refine wpList_append_lies _ rfl (.tmp 28) (.tmp 35) 22 rfl (bp + 1) 26 i0 (.agg #[.int .i64 0, .int .i64 0, .int .i64 0, .int .i64 0]) 4 32 Try.underlying22 hi hz0 hz1 hz2 rfl (by decide) _ i ((flatI ps).map (Value.int .i64)) rfl (show World.ownsRow _ (bp + 1) 26 4 (.slice Ap i cp) i ((flatI ps).map (Value.int .i64)) from by have := T.out.its; unfold IOwn Flat at this; rw [← HPL.out] at this; exact World.ownsRow.alloc this _) ⟨wr.heap.size, 0, none⟩ 1 1 ((flatI [(15, mb, 12, 400)]).map (Value.int .i64)) rfl rfl (news_int (W := wr) (ys := flatI [(15, mb, 12, 400)])) (one_cells (ys := flatI [(15, mb, 12, 400)])) (by decide) (by unfold maxLen; omega) (by omega) (by have := T.out.le; simp only [World.size_alloc]; omega) _ rfl ?_; intro g7 cap w8 hown hgr hat hlt2; rw [HPL.out] at hown hgr hat; have AP := IOwn.app (l := ps) (m := [(15, mb, 12, 400)]) hown rfl rfl; have hT2 := (T.out.below ((Below.refl _ _).alloc (Nat.le_refl _) (.cells #[.int .i64 15, .int .i64 mb, .int .i64 12, .int .i64 400] 26))).app (p := (15, mb, 12, 400)) (by rw [List.length_append]; exact AP) hgr hat; obtain ⟨T2, ⟨u, hu⟩, hfu⟩ := hT2; simp only [List.length_append, List.length_cons, List.length_nil, Nat.zero_add] at T2; rw [← HPL.out] at T2; have HT2 := Lib.hid T2; clear hown hgr hat hlt2 AP T2))
      go_roundw
      case rel => exact ⟨i + 1, some ⟨g7, 0, none⟩, cap, by omega, by go_num, by rw [HSI.out]; exact HT2⟩
      case measure => simp [intOf]; omega
    · obtain rfl : i = N := by omega
      have HLL := Lib.hid (limL_len Bl i)
      have HVA := Lib.hid (fun (W : World) (k : Below wr.heap.size wr W) => valid_any (limL Bl i) Ap cp 12 W (T.out.its.irow.below k))
      have hlv := levels_any (limL Bl i) Ap cp 12 wr T.out.its.irow
      obtain ⟨j0, j1, jl⟩ := T.out.box
      have HVB := Lib.hid (fun (x : Nat) (hx : x < i) => lim_blk Bl i hx)
      have HLE := Lib.hid (fun (h : i ≤ 96) => lim_valid hB1 h)
      have HGT := Lib.hid (fun (h : 96 < i) => lim_many (B := Bl) h)
      have HLV := Lib.hid (show Lev (limL Bl i) ((List.range i).map (limB Bl)) from lim_lev hB1 (by omega))
      obtain ⟨ps, hps⟩ : ∃ ps, ps = limL Bl i := ⟨_, rfl⟩
      simp only [← hps] at T HLL HVA hlv j0 HVB HLE HGT HLV
      rw [HLL.out] at hlv j0
      have hva := HVA.out
      rw [HLL.out] at hva
      have HVA := Lib.hid hva
      have HLW := Lib.hid hlv
      clear hps hlv hva hlt
      go_wp2_with fail
      refine HLW.out.mono ?_
      rintro e w2 ⟨v, vs, rfl, O, hlev, hnil, B2⟩
      have T2 := Lib.hid (T.out.below B2)
      have HB2 := Lib.hid B2
      have HB := Lib.hid (show Below w.heap.size w w2 by rw [← HBP.out]; exact T2.out.bel)
      clear j0 j1 jl B2
      obtain ⟨j0, j1, jl⟩ := T2.out.box
      rw [HLL.out] at j0
      obtain ⟨vA, vc, rfl, R, _⟩ := O.slice
      by_cases hbig : 96 < i
      · have h3 := HGT.out hbig
        have hz := hnil (by rw [h3]; decide)
        subst hz
        rw [h3]
        have hbig' : (96 : Int) < (i : Int) := by omega
        clear hlev hnil O
        go_wp2_with fail
        refine (HVA.out w2 HB2.out).mono ?_
        rintro e w3 ⟨rfl, B3⟩
        rw [h3]
        have HB3 := Lib.hid (HB.out.trans (B3.mono HB.out.size))
        clear B3 h3 j0 j1 jl
        go_wp2_with fail
        refine (sane_any _).mono ?_
        rintro e w6 ⟨rfl, B6⟩
        have HB6 := Lib.hid (HB3.out.trans (B6.mono HB3.out.size))
        clear B6
        go_wp2_with fail
        go_ret
        exact ⟨rfl, HB6.out⟩
      · have h0 := HLE.out (by omega)
        have hz := lev_uniq (valid_ok h0).2.2 (hlev h0) HLV.out
        have hvl : vs.length = i := by rw [(hlev h0).len, HLL.out]
        have HVS := Lib.hid (fun (x : Nat) (hx : x < i) => (show vs.getD x 0 = blk ps x by rw [HVB.out x hx, hz]; simp [List.getD_eq_getElem?_getD, hx]))
        rw [h0, hvl]
        have HR := Lib.hid R
        have HVL := Lib.hid hvl
        have hne : ((i : Int) != (i : Int)) = false := by simp
        have hbig' : ¬ (96 : Int) < (i : Int) := by omega
        clear hlev hnil O h0 hz hvl
        go_wp2_with fail
        clear j0 j1 jl hne hbig' hbig
        go_loopw [70] (fun iv wr => ∃ x : Nat, x ≤ i ∧ iv = .int .i64 (x : Int) ∧ Hid (wr = w2)) (fun iv _ => i - (intOf iv).toNat)
        case atStart => exact ⟨0, by omega, rfl, Lib.hid rfl⟩
        case round =>
          obtain ⟨x, hx, rfl, HW⟩ := hrel
          obtain rfl := HW.out
          by_cases hlx : x < i
          · obtain ⟨vad, rfl, _, cv⟩ := HR.out x (by rw [HVL.out]; exact hlx)
            rw [HVS.out x hlx] at cv
            obtain ⟨pad, rfl, c0, c1, _, _⟩ := T2.out.its.irow.two (x := x) (y := x) (by rw [HLL.out]; exact hlx) (by rw [HLL.out]; exact hlx)
            obtain ⟨j0, j1, jl⟩ := T2.out.box
            rw [HLL.out] at j0
            have hlx' : (x : Int) < (i : Int) := by omega
            generalize blk ps x = bx at *
            have hb : (bx != bx) = false := by simp
            go_wp2_with fail
            go_roundw
            case rel => exact ⟨x + 1, by omega, by go_num, Lib.hid trivial⟩
            case measure => simp [intOf]; omega
          · obtain rfl : x = i := by omega
            go_wp2_with fail
            refine (sane_any _).mono ?_
            rintro e w6 ⟨rfl, B6⟩
            have HB6 := Lib.hid (HB.out.trans (B6.mono HB.out.size))
            clear B6
            go_wp2_with fail
            go_ret
            exact ⟨rfl, HB6.out⟩
end Go.Proofs.Ythedalfokekbkaa
