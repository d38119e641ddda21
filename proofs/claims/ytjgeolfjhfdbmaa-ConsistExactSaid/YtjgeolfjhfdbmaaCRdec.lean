/-
  Stage 6: the reference's Decode.
-/
import Derived.Test.YtjgeolfjhfdbmaaCTwo
import Derived.Test.YtjgeolfjhfdbmaaCRet
import Derived.Test.YtjgeolfjhfdbmaaCRlist
import Derived.Test.YtjgeolfjhfdbmaaCMkL
import Derived.Deep.RegionHeld3
set_option linter.unusedSimpArgs false
set_option linter.unusedVariables false
namespace Go.Proofs.Ytjgeolfjhfdbmaa
open Go.RowKit

theorem lsS_all {bs : List Int} {n c : Nat} (h : lsS bs n false c = false) (k : Nat) (hk : k < c) : lsN bs n k + 15 + dAt bs (lsN bs n k) ≤ bs.length := by
  induction c with
  | zero => omega
  | succ c ih =>
    obtain ⟨h1, h2⟩ := rdS_false.1 (show rdS bs (lsN bs n c) (lsS bs n false c) = false from h)
    by_cases e : k = c
    · subst e; exact h2
    · exact ih h1 (by omega)
theorem lsN_mono {bs : List Int} {n c : Nat} (h : lsS bs n false c = false) (k : Nat) (hk : k ≤ c) : lsN bs n k ≤ lsN bs n c := by
  induction c with
  | zero => obtain rfl : k = 0 := by omega
            exact Nat.le_refl _
  | succ c ih =>
    have h1 := (rdS_false.1 (show rdS bs (lsN bs n c) (lsS bs n false c) = false from h)).1
    by_cases e : k = c + 1
    · subst e; exact Nat.le_refl _
    · have := ih h1 (by omega)
      have hr := (rd_ok false (lsS_all h c (Nat.lt_succ_self c))).1
      show _ ≤ rdN bs (lsN bs n c)
      omega
theorem lsG_mono {bs : List Int} {n k c : Nat} {g : Bool} (h : lsG bs n g k = true) (hk : k ≤ c) : lsG bs n g c = true := by
  induction c with
  | zero => obtain rfl : k = 0 := by omega
            exact h
  | succ c ih =>
    by_cases e : k = c + 1
    · subst e; exact h
    · show rdG bs (lsN bs n c) (lsG bs n g c) = true
      rw [ih (by omega)]
      rfl
theorem lsX_sz {bs : List Int} (hb : BB bs) {n c : Nat} (h : lsS bs n false c = false) : Sz (lsX bs n c) := by
  induction c with
  | zero => intro x hx; cases hx
  | succ c ih =>
    have h1 := (rdS_false.1 (show rdS bs (lsN bs n c) (lsS bs n false c) = false from h)).1
    intro x hx
    rcases List.mem_append.1 hx with hx | hx
    · exact ih h1 x hx
    · obtain rfl := List.mem_singleton.1 hx
      rw [(rd_ok false (lsS_all h c (Nat.lt_succ_self c))).2.1]
      show (strOfNums ((bs.drop (lsN bs n c + 15)).take (dAt bs (lsN bs n c)))).size ≤ _
      rw [strOfNums_size, List.length_take]
      have := hb.at_ (lsN bs n c + 14)
      unfold dAt
      omega
/-- The cells of bytes, spelt as the walks ask for them. -/
theorem BRow.cell {w : World} {ad : Addr} {bs : List Int} (h : BRow w (some ad) bs) {j : Nat} (hj : j < bs.length) : w.cell? (ad.add j) = some (.int .u8 (bs.getD j 0)) := by
  obtain ⟨ad', e, _, hc⟩ := h.row j hj
  injection e with e
  subst e
  exact hc
theorem add_lit (ad : Addr) (n j : Nat) (hj : 0 < j) : (⟨(ad.add n).block, (ad.add n).off + j, none⟩ : Addr) = ad.add (n + j) := by
  unfold Addr.add
  by_cases g : n = 0
  · subst g; rw [if_pos rfl, Nat.zero_add, if_neg (show ¬ j = 0 by omega)]
  · rw [if_neg g, if_neg (show ¬ n + j = 0 by omega), Nat.add_assoc]
theorem two_drew_ (W : World) (u v : Int) : (convert 24 9 (.slice (some ⟨W.heap.size, 0, none⟩) 2 2)).run Try.prog (W.alloc (.cells #[.int .u8 u, .int .u8 v] 5)).drew = .ok (.string (strOfNums [u, v])) (W.alloc (.cells #[.int .u8 u, .int .u8 v] 5)).drew :=
  run_convert_bytes_arg _ 24 5 Try.underlying24 Try.underlying5 W.heap.size 0 2 2 [u, v] rfl (fun i hi => by
    show (W.drew.alloc _).cell? _ = _
    obtain rfl | rfl : i = 0 ∨ i = 1 := by omega
    · rw [Nat.zero_add]; exact (cell_new W.drew _ _ _).trans rfl
    · exact (cell_new W.drew _ _ _).trans rfl) 9 Try.underlying9
/-- wpList_appW at a step of a region that draws. -/
theorem step_appW (W : World) {ops : Array Oper} {o : Oper} {a : Act} {K : Act → World → Prop} {Q : Exit → Act → World → Prop} {E : Prop} (hgd : o.guard = none) (s x : Operand)
    (ho : o.op = .call { callee := .builtin .append, args := #[s, x], argTypes := #[23, 23] }) (base : Nat) (v : Value) (l : List Wag) (hs : a.eval s = v) (O : ROwn WR 30 W base v l)
    (ys : List Wag) (w0 : World) (hW : W = w0.alloc (.cells (WR.flat ys).toArray 30)) (z : Nat) (hz : w0.heap.size = z) (m c : Nat) (hm : ys.length = m) (h0 : 0 < m) (hx : a.eval x = .slice (some ⟨z, 0, none⟩) m c)
    (hl : l.length + m ≤ 1000000000) (hb : base ≤ W.heap.size)
    (h : ∀ v' w', AppW base v l ys W v' w' → K (a.put o.dst v') w') : if Region.wanted o (yielded ops a.tmps) = true then Oper.wp Try.prog o a W K Q else E := by
  obtain ⟨i0, hi, hz0, hz1, hz2⟩ := info_parts infoWag
  subst hm
  subst hz
  refine step_append_lies W hgd s x 23 ho base 30 i0 (aggW wag0) 8 80 Try.underlying23 hi hz0 hz1 hz2 rfl (by decide) v l.length (WR.flat l) hs O ⟨w0.heap.size, 0, none⟩ ys.length c (WR.flat ys) hx (flatR_len WR ys) (by rw [hW]; exact newR (R := WR)) (flatR_one WR ys) h0 (by unfold maxLen; omega) (by omega) hb W.heap.size rfl ?_
  intro g cap w1 hown hg hat hlt
  exact h _ w1 ⟨ROwn.app (R := WR) hown rfl rfl, hg, g, cap, rfl, hlt⟩
theorem bdr {w : World} (n : Nat) : Below w.heap.size w (w.drewN n) := ⟨rfl, rfl, rfl, Nat.le_refl _, fun _ _ => rfl⟩
/-- What region 24 reads. -/
structure Rd24 (w : World) (a : Addr) (d cap : Nat) (x8 y : Int) (dst : ByteArray) (p6 p7 p9 p10 p11 p12 : Int) : Prop where
  c6 : w.cell? ⟨a.block, a.off + 6, none⟩ = some (.int .u8 p6)
  c7 : w.cell? ⟨a.block, a.off + 7, none⟩ = some (.int .u8 p7)
  c8 : w.cell? ⟨a.block, a.off + 8, none⟩ = some (.int .u8 x8)
  c9 : w.cell? ⟨a.block, a.off + 9, none⟩ = some (.int .u8 p9)
  c10 : w.cell? ⟨a.block, a.off + 10, none⟩ = some (.int .u8 p10)
  c11 : w.cell? ⟨a.block, a.off + 11, none⟩ = some (.int .u8 p11)
  c12 : w.cell? ⟨a.block, a.off + 12, none⟩ = some (.int .u8 p12)
  c13 : w.cell? ⟨a.block, a.off + 13, none⟩ = some (.int .u8 y)
  cv : (convert 24 9 (.slice (some ⟨a.block, a.off + 15, none⟩) d cap)).run Try.prog w = .ok (.string dst) w
theorem Rd24.of {w : World} {ad : Addr} {bs : List Int} {n d cap : Nat} (h : BRow w (some ad) bs) (hl : n + 15 + d ≤ bs.length) : Rd24 w (ad.add n) d cap (bs.getD (n + 8) 0) (bs.getD (n + 13) 0) (strOfNums ((bs.drop (n + 15)).take d)) (bs.getD (n + 6) 0) (bs.getD (n + 7) 0) (bs.getD (n + 9) 0) (bs.getD (n + 10) 0) (bs.getD (n + 11) 0) (bs.getD (n + 12) 0) := by
  have hc : ∀ j, 0 < j → j < 15 → w.cell? ⟨(ad.add n).block, (ad.add n).off + j, none⟩ = some (.int .u8 (bs.getD (n + j) 0)) := fun j h0 hj => by
    rw [add_lit ad n j h0]; exact h.cell (by omega)
  refine ⟨hc 6 (by decide) (by decide), hc 7 (by decide) (by decide), hc 8 (by decide) (by decide), hc 9 (by decide) (by decide), hc 10 (by decide) (by decide), hc 11 (by decide) (by decide), hc 12 (by decide) (by decide), hc 13 (by decide) (by decide), ?_⟩
  have hlen : ((bs.drop (n + 15)).take d).length = d := by rw [List.length_take, List.length_drop]; omega
  refine conv_row w (zs := (bs.drop (n + 15)).take d) (fun j hj => ⟨_, rfl, ?_⟩) d hlen.symm
  rw [add_lit ad n 15 (by decide), add_add, getD_cut (by omega)]
  exact h.cell (by omega)
theorem Rd24.drewN {w : World} {a : Addr} {d cap : Nat} {x8 y : Int} {dst : ByteArray} {p6 p7 p9 p10 p11 p12 : Int} (h : ∀ m, Rd24 (w.drewN m) a d cap x8 y dst p6 p7 p9 p10 p11 p12) (m : Nat) : Rd24 (w.drewN m) a d cap x8 y dst p6 p7 p9 p10 p11 p12 := h m
theorem app_below {base n : Nat} {w wr w1 : World} {o : Obj} {vo v1 : Value} {l ys : List Wag} (h : Below base w wr) (hb : base ≤ wr.heap.size) (O : ROwn WR 30 wr base vo l) (A : AppW base vo l ys ((wr.drewN n).alloc o) v1 w1) : Below base w w1 :=
  ((h.trans (show Below base wr (wr.drewN n) from ⟨rfl, rfl, rfl, Nat.le_refl _, fun _ _ => rfl⟩)).alloc hb o).grown A.2.1 (le_alloc (w := wr.drewN n) hb) (fun j hj => (O.block hj).1)
set_option maxRecDepth 100000 in
set_option maxHeartbeats 6400000 in
theorem rdec_any (A : Option Addr) (c : Nat) (bs : List Int) (w : World) (h : BRow w A bs) (hc : bs.length ≤ c ∧ c ≤ maxLen) :
    Calls Try.prog 26 #[.slice A bs.length c] w (DecPost bs w) := by
  have hl := h.len
  have H := Lib.hid h
  have HC := Lib.hid hc
  obtain ⟨hc1, hc2⟩ := hc
  have hc3 : (c : Int) ≤ 9223372036854775807 := by unfold maxLen at hc2; omega
  obtain ⟨L, hL⟩ : ∃ L, L = bs.length := ⟨_, rfl⟩
  have HL := Lib.hid hL
  rw [← hL] at hl hc1 ⊢
  clear h hc2 hL
  obtain ⟨E, hE⟩ : ∃ E, E = endR bs := ⟨_, rfl⟩
  have HE := Lib.hid hE
  have hend := rend_any A c bs w H.out
  rw [← HL.out, ← hE] at hend
  go_enter Try.func26, Try.ntmps26
  go_wp2_with fail
  refine hend.mono ?_
  rintro e w' ⟨rfl, rfl⟩
  clear hend hE
  by_cases hn : E < 0
  · have HD := Lib.hid (dec_neg (bs := bs) (by rw [← HE.out]; exact hn))
    go_wp2_with fail
    go_ret2
    exact DecPost.mk' HD.out ROwn.nil (Below.refl _ _)
  · by_cases hm : E < (L : Int)
    · have HD := Lib.hid (dec_less (bs := bs) (by rw [← HE.out]; omega) (by rw [← HE.out, ← HL.out]; exact hm))
      go_wp2_with fail
      go_ret2
      exact DecPost.mk' HD.out ROwn.nil (Below.refl _ _)
    · have hEL : E = (L : Int) := by
        have := endR_pos (bs := bs) (by rw [← HE.out]; omega)
        rw [HE.out, HL.out]
        have h1 := this.2.1
        have h2 := this.2.2.1
        rw [HE.out, HL.out] at hm
        omega
      subst hEL
      have HP := Lib.hid (endR_pos (bs := bs) (by rw [← HE.out]; omega))
      have hL2 : 2 ≤ L := by have := HP.out.2.2.1; rw [HL.out]; omega
      obtain ⟨N, rfl⟩ : ∃ N, L = N + 2 := ⟨L - 2, by omega⟩
      clear hn hm
      obtain ⟨ad, rfl⟩ : ∃ ad, A = some ad := by
        obtain ⟨ad, e, _⟩ := H.out.row 0 (by rw [← HL.out]; omega)
        exact ⟨ad, e⟩
      have x0 := H.out.cell (j := N) (by rw [← HL.out]; omega)
      have x1 := H.out.cell (j := N + 1) (by rw [← HL.out]; omega)
      rw [← add_lit ad N 1 (by decide)] at x1
      have X0 := H.out.bd.at_ N
      have X1 := H.out.bd.at_ (N + 1)
      obtain ⟨y0, hy0⟩ : ∃ y, y = bs.getD N 0 := ⟨_, rfl⟩
      obtain ⟨y1, hy1⟩ : ∃ y, y = bs.getD (N + 1) 0 := ⟨_, rfl⟩
      obtain ⟨K, hK⟩ : ∃ K, K = chk (bs.take N) := ⟨_, rfl⟩
      rw [← hy0] at x0 X0
      rw [← hy1] at x1 X1
      have HS := Lib.hid (show y0 * 256 + y1 = K ↔ bs.getD (bs.length - 2) 0 * 256 + bs.getD (bs.length - 1) 0 = chk (bs.take (bs.length - 2)) by rw [← HL.out, hy0, hy1, hK]; exact Iff.rfl)
      have HTW := Lib.hid (fun n => rtwo_any (ad.add N) 2 (c - N) y0 y1 (w.drewN n) (by decide) x0 x1 X0.1 X0.2 X1.1 X1.2)
      have HCK := Lib.hid (show ∀ n, Calls Try.prog 18 #[.slice (some ad) N c] (w.drewN n) fun e w' => e = .returned (.int .i64 K) ∧ w.drewN n = w' from fun n => by
        have := rchk_any (bs.take N) (some ad) c (w.drewN n) ((H.out.take N).drewN n)
        rw [List.length_take, ← HL.out, show min N (N + 2) = N by omega, ← hK] at this
        exact this)
      have nc : c ≠ N := by omega
      have q1 : (N : Int) ≤ (N : Int) + 2 := by omega
      have q2 : (N : Int) + 2 - (N : Int) = 2 := by omega
      have q3 : N + 2 - N = 2 := by omega
      clear x0 x1 hy0 hy1 hK X0 X1
      go_upto_region 6 with fail
      go_quiet (first | (go_at_call 43; exact Calls.quiet_of (HTW.out _)) | (go_at_call 18; exact Calls.quiet_of_same ((HCK.out _).mono fun _ _ h => ⟨h.1, h.2.symm⟩)))
      have HB1 := Lib.hid (show Below w.heap.size w (w.drewN nq) from ⟨rfl, rfl, rfl, Nat.le_refl _, fun _ _ => rfl⟩)
      have H1 := Lib.hid (H.out.drewN nq)
      generalize w.drewN nq = w1 at *
      by_cases hk : y0 * 256 + y1 = K
      · have ev : (y0 * 256 + y1 != K) = false := bne_eq_false_iff_eq.2 hk
        have HD := Lib.hid (dec_rest (bs := bs) (by rw [← HE.out, HL.out]) (HS.out.1 hk))
        obtain ⟨C, hC⟩ : ∃ C : Nat, C = (bs.getD 0 0).toNat := ⟨_, rfl⟩
        have z01 := H.out.bd.at_ 0
        obtain ⟨z0, z1⟩ := z01
        have hC2 : bs.getD 0 0 = (C : Int) := by omega
        have hC3 : C ≤ 255 := by omega
        obtain ⟨_, _, pN2, _, pEN, pG, pX, _, _, pS⟩ := HP.out
        rw [← hC] at pG pX pS pEN
        have HPN := Lib.hid (show lsN bs 1 C + 2 ≤ N + 2 by rw [← pEN, HL.out]; exact pN2)
        have HPG := Lib.hid pG
        have HPX := Lib.hid pX
        have HPS := Lib.hid pS
        have HCell := Lib.hid (show ∀ wr : World, BRow wr (some ad) bs → wr.cell? ad = some (.int .u8 (C : Int)) from fun wr hr => by
          have := hr.cell (j := 0) (by rw [← HL.out]; omega)
          rw [add_zero_, hC2] at this
          exact this)
        have e1 : (0 : Int) < (N : Int) + 2 := by omega
        clear hk pG pX pS pEN pN2 hC hC2 z0 z1 HS HP HTW HCK HE
        go_wp2_with fail
        clear ev
        generalize (y0 * 256 + y1 != K) = bz
        go_loopw [5, 6, 7] (fun v a i wr => ∃ k n : Nat, k ≤ C ∧ n ≤ N + 2 ∧ i = .int .i64 k ∧ a = .int .i64 n ∧ Hid (n = lsN bs 1 k ∧ lsG bs 1 false k = false ∧ ROwn WR 30 wr w.heap.size v (lsX bs 1 k)) ∧ Hid (Below w.heap.size w wr)) (fun _ _ i _ => C - (intOf i).toNat)
        case atStart => exact ⟨0, 1, by omega, by omega, rfl, rfl, Lib.hid ⟨rfl, rfl, ROwn.nil⟩, HB1⟩
        case round =>
          clear HB1 H1
          obtain ⟨k, n, hk, hn, rfl, rfl, S, B⟩ := hrel
          generalize u5 = vo at *
          generalize wr = wo at *
          have HR := Lib.hid (H.out.below B.out)
          have c0 := HCell.out wo HR.out
          by_cases hlt : k < C
          · have hnb := lsS_all HPS.out k hlt
            rw [← S.out.1, ← HL.out] at hnb
            have HBAD := Lib.hid (show badAt bs n = true → decR bs = ([], 11) from fun hb => by
              have hr := rd_ok (bs := bs) (n := n) false (by rw [← HL.out]; exact hnb)
              have hg : lsG bs 1 false (k + 1) = true := by
                show rdG bs (lsN bs 1 k) (lsG bs 1 false k) = true
                rw [← S.out.1, S.out.2.1, hr.2.2, hb]; rfl
              rw [HD.out, HPG.out, lsG_mono hg hlt]; rfl)
            have HGOOD := Lib.hid (show badAt bs n = false → n + 15 + dAt bs n = lsN bs 1 (k + 1) ∧ lsG bs 1 false (k + 1) = false ∧ lsX bs 1 (k + 1) = lsX bs 1 k ++ [wagAt bs n] from fun hb => by
              have hr := rd_ok (bs := bs) (n := n) false (by rw [← HL.out]; exact hnb)
              refine ⟨?_, ?_, ?_⟩
              · show _ = rdN bs (lsN bs 1 k); rw [← S.out.1, hr.1]
              · show rdG bs (lsN bs 1 k) (lsG bs 1 false k) = false
                rw [← S.out.1, S.out.2.1, hr.2.2, hb]; rfl
              · show lsX bs 1 k ++ [rdX bs (lsN bs 1 k)] = _; rw [← S.out.1, hr.2.1])
            obtain ⟨six, hsix⟩ : ∃ six, six = (bs.drop n).take 6 := ⟨_, rfl⟩
            have HSIX := Lib.hid hsix
            have HS6 := Lib.hid (show six.length = 6 by rw [hsix, List.length_take, List.length_drop, ← HL.out]; omega)
            have HSD := Lib.hid (show ∀ j, j < 6 → six.getD j 0 = bs.getD (n + j) 0 from fun j hj => by rw [hsix]; exact getD_cut hj)
            have nc : c ≠ n := by omega
            have q1 : (n : Int) ≤ (N : Int) + 2 := by omega
            have q2 : (N : Int) + 2 - (n : Int) = ((N + 2 - n : Nat) : Int) := by omega
            have HNB := Lib.hid (show n + 15 + dAt bs n ≤ N by
              have h1 := lsN_mono HPS.out (k + 1) hlt
              have h2 := HPN.out
              have h3 : rdN bs (lsN bs 1 k) = n + 15 + dAt bs n := by rw [← S.out.1]; exact (rd_ok (bs := bs) (n := n) false (by rw [← HL.out]; exact hnb)).1
              have h4 : lsN bs 1 (k + 1) = rdN bs (lsN bs 1 k) := rfl
              omega)
            obtain ⟨d, hd⟩ : ∃ d, d = dAt bs n := ⟨_, rfl⟩
            rw [← hd] at HNB
            have HDA := Lib.hid hd
            rw [← hd] at hnb
            clear hsix hd
            go_wp2_with fail
            clear c0
            go_loopw [9, 10] (fun s i wr => ∃ j : Nat, j ≤ 6 ∧ i = .int .i64 j ∧ s = .string (strOfNums (numB (six.take j))) ∧ Hid (badB (six.take j) = false) ∧ Hid (Below wo.heap.size wo wr)) (fun _ i _ => 6 - (intOf i).toNat)
            case atStart => exact ⟨0, by omega, rfl, rfl, Lib.hid rfl, Lib.hid (Below.refl _ _)⟩
            case round =>
              obtain ⟨j, hj, rfl, rfl, BJ, BW⟩ := hrel
              have HRW := Lib.hid (HR.out.below BW.out)
              by_cases hlj : j < 6
              · have cj := HRW.out.cell (j := n + j) (by rw [← HL.out]; omega)
                rw [← add_add] at cj
                have xb := H.out.bd.at_ (n + j)
                have ht := take_get (xs := six) (k := j) (by rw [HS6.out]; exact hlj)
                rw [HSD.out j hlj] at ht
                obtain ⟨x, hx⟩ : ∃ x, x = bs.getD (n + j) 0 := ⟨_, rfl⟩
                rw [← hx] at cj xb ht
                obtain ⟨b1, b2⟩ := xb
                have T1 := Lib.hid (show numB (six.take (j + 1)) = numB (six.take j) ++ [48 + x / 16, 48 + x % 16] by rw [ht, numB_one])
                have T2 := Lib.hid (show badB (six.take (j + 1)) = (decide (9 < x / 16) || decide (9 < x % 16)) by rw [ht, badB_one, BJ.out, Bool.false_or])
                have HB6 := Lib.hid (show badB (six.take (j + 1)) = true → badAt bs n = true from fun hb => by
                  unfold badAt
                  rw [← HSIX.out, ← List.take_append_drop (j + 1) six, badB_app, hb]; rfl)
                have h1 : 0 ≤ x / 16 := by omega
                have h2 : x / 16 ≤ 15 := by omega
                have l1 : 0 ≤ x % 16 := by omega
                have l2 : x % 16 ≤ 15 := by omega
                have q3 : (j : Int) < ((N + 2 - n : Nat) : Int) := by omega
                have q4 : (0 : Int) ≤ (j : Int) := by omega
                clear hx ht
                by_cases h9 : 9 < x / 16
                · have HF := Lib.hid (HBAD.out (HB6.out (by rw [T2.out, decide_eq_true h9]; rfl)))
                  go_wp2_with fail
                  go_ret2
                  exact DecPost.mk' HF.out ROwn.nil (B.out.trans (BW.out.mono B.out.size))
                · by_cases h10 : 9 < x % 16
                  · have HF := Lib.hid (HBAD.out (HB6.out (by rw [T2.out, decide_eq_true h10, Bool.or_true])))
                    go_wp2_with fail
                    go_ret2
                    exact DecPost.mk' HF.out ROwn.nil (B.out.trans (BW.out.mono B.out.size))
                  · have HF := Lib.hid (show badB (six.take (j + 1)) = false by rw [T2.out, decide_eq_false h9, decide_eq_false h10]; rfl)
                    go_upto_region 20 with fail
                    have hob := fun a b => two_drew_ wr a b
                    have z1 : (strOfNums (numB (six.take j))).size = 2 * j := by rw [strOfNums_size, numB_len, List.length_take, HS6.out]; omega
                    have z2 : (strOfNums [48 + x / 16, 48 + x % 16]).size = 2 := by rw [strOfNums_size]; rfl
                    have HJ := Lib.hid (show strOfNums (numB (six.take j)) ++ strOfNums [48 + x / 16, 48 + x % 16] = strOfNums (numB (six.take (j + 1))) by rw [T1.out, strOfNums_append])
                    go_region
                    rw [HJ.out]
                    clear hob z1 z2 cj
                    have HBN := Lib.hid (show Below wo.heap.size wo (wr.alloc (.cells #[.int .u8 (48 + x / 16), .int .u8 (48 + x % 16)] 5)).drew from bdn (n := 1) (BW.out.alloc BW.out.size _))
                    go_wp2_with fail
                    go_roundw
                    case rel => exact ⟨j + 1, by omega, by go_num, rfl, HF, HBN⟩
                    case measure => simp [intOf]; omega
              · obtain rfl : j = 6 := by omega
                have ht6 : six.take 6 = six := List.take_of_length_le (by rw [HS6.out]; exact Nat.le_refl _)
                rw [ht6] at BJ ⊢
                obtain ⟨nm, hnm⟩ : ∃ nm, nm = strOfNums (numB six) := ⟨_, rfl⟩
                have HNM := Lib.hid hnm
                rw [← hnm]
                have g13 := HRW.out.cell (j := n + 13) (by rw [← HL.out]; omega)
                have g14 := HRW.out.cell (j := n + 14) (by rw [← HL.out]; omega)
                rw [← add_lit ad n 13 (by decide)] at g13
                rw [← add_lit ad n 14 (by decide)] at g14
                have x13 := H.out.bd.at_ (n + 13)
                have x14 := H.out.bd.at_ (n + 14)
                have hd14 : bs.getD (n + 14) 0 = (d : Int) := by rw [HDA.out]; unfold dAt; omega
                rw [hd14] at g14 x14
                obtain ⟨y, hy⟩ : ∃ y, y = bs.getD (n + 13) 0 := ⟨_, rfl⟩
                have HY := Lib.hid hy
                rw [← hy] at g13 x13
                have hd255 : d ≤ 255 := by omega
                obtain ⟨b1, b2⟩ := x13
                have q13 : (13 : Int) < ((N + 2 - n : Nat) : Int) := by omega
                have q14 : (14 : Int) < ((N + 2 - n : Nat) : Int) := by omega
                have HBA := Lib.hid (show badAt bs n = decide (9 < gdV y) by unfold badAt; rw [← HSIX.out, BJ.out, hy, Bool.false_or])
                clear ht6 hlj hj hnm hy hd14 x14
                by_cases hg : 9 < gdV y
                · have HF := Lib.hid (HBAD.out (by rw [HBA.out, decide_eq_true hg]))
                  have hg2 : 25 < y ∨ (10 ≤ y ∧ y ≤ 15) := by unfold gdV at hg; split at hg <;> omega
                  clear hg
                  rcases hg2 with hg2 | ⟨hg2, hg3⟩
                  · go_wp2_with fail
                    go_ret2
                    exact DecPost.mk' HF.out ROwn.nil (B.out.trans (BW.out.mono B.out.size))
                  · have hg4 : ¬ 25 < y := by omega
                    go_wp2_with fail
                    go_ret2
                    exact DecPost.mk' HF.out ROwn.nil (B.out.trans (BW.out.mono B.out.size))
                · obtain ⟨GN, GG, GX⟩ := HGOOD.out (by rw [HBA.out, decide_eq_false hg])
                  have hg2 : ¬ 25 < y := by unfold gdV at hg; split at hg <;> omega
                  have hg3 : y < 10 ∨ 15 < y := by unfold gdV at hg; split at hg <;> omega
                  have hg4 : ¬ 10 ≤ y ∨ ¬ y ≤ 15 := by omega
                  clear hg
                  obtain ⟨gv, hgv⟩ : ∃ g, g = gdV y := ⟨_, rfl⟩
                  obtain ⟨gb, hgb⟩ : ∃ g, g = decide (16 ≤ y) := ⟨_, rfl⟩
                  have HGV := Lib.hid hgv
                  have HGB := Lib.hid hgb
                  have hm16 : y % 16 = gv := by rw [hgv]; unfold gdV; split <;> omega
                  clear hgv
                  obtain ⟨dst, hdst⟩ : ∃ t, t = strOfNums ((bs.drop (n + 15)).take d) := ⟨_, rfl⟩
                  obtain ⟨q, hq⟩ : ∃ q : Nat → Int, q = fun j => bs.getD (n + j) 0 := ⟨_, rfl⟩
                  have hqj : ∀ j, q j = bs.getD (n + j) 0 := fun j => by rw [hq]
                  have HQB := Lib.hid (show ∀ j, 0 ≤ q j ∧ q j ≤ 255 from fun j => by rw [hqj]; exact H.out.bd.at_ (n + j))
                  have HRC := Lib.hid (show ∀ (W : World), BRow W (some ad) bs → ∀ j, 0 < j → j < 15 → W.cell? ⟨(ad.add n).block, (ad.add n).off + j, none⟩ = some (.int .u8 (q j)) from fun W hr j h0 hj => by
                    rw [add_lit ad n j h0, hqj]; exact hr.cell (by rw [← HL.out]; omega))
                  have HCV := Lib.hid (show ∀ (W : World), BRow W (some ad) bs → (convert 24 9 (.slice (some ⟨(ad.add n).block, (ad.add n).off + 15, none⟩) d (c - n - 15))).run Try.prog W = .ok (.string dst) W from fun W hr => by
                    have := Rd24.of (w := W) (ad := ad) (bs := bs) (n := n) (d := d) (cap := c - n - 15) hr (by rw [← HL.out]; exact hnb)
                    rw [hdst]
                    exact this.cv)
                  have HWX := Lib.hid (show wagAt bs n = ⟨nm, q 6 * 256 + q 7, q 8, q 9 * 256 + q 10, q 11 * 256 + q 12, gv, gb, dst⟩ by
                    unfold wagAt
                    rw [← HSIX.out, ← HNM.out, ← HY.out, ← HGV.out, ← HGB.out, ← HDA.out, ← hdst, ← hqj 6, ← hqj 7, ← hqj 8, ← hqj 9, ← hqj 10, ← hqj 11, ← hqj 12])
                  have HYQ := Lib.hid (show q 13 = y by rw [hqj, ← HY.out])
                  have HM := Lib.hid (show n + (N + 2 - n) = N + 2 ∧ 17 + d ≤ N + 2 - n ∧ N + 2 - n ≤ c - n ∧ c - n ≤ c by have := HNB.out; omega)
                  clear hdst hq hqj
                  generalize N + 2 - n = M at *
                  generalize c - n = D at *
                  generalize ad.add n = aN at *
                  have M1 : 17 + d ≤ M := HM.out.2.1
                  have M2 : M ≤ D := HM.out.2.2.1
                  have M3 : (D : Int) ≤ 9223372036854775807 := by have := HM.out.2.2.2; omega
                  have TJ := Lib.hid (fun (j : Nat) (W : World) (hr : BRow W (some ad) bs) (h0 : 0 < j) (h1 : j < 14) => rtwo_any ⟨aN.block, aN.off + j, none⟩ (M - j) (D - j) (q j) (q (j + 1)) W (by omega) (HRC.out W hr j h0 (by omega)) (HRC.out W hr (j + 1) (by omega) (by omega)) (HQB.out j).1 (HQB.out j).2 (HQB.out (j + 1)).1 (HQB.out (j + 1)).2)
                  have hq8 : IntKind.i64.wrap (q 8) = q 8 := by have := HQB.out 8; exact IntWalk.i64_in _ (by omega)
                  have hy16 : y.tmod 16 = gv := by rw [Int.tmod_eq_emod_of_nonneg b1]; exact hm16
                  have hgvw : IntKind.i64.wrap gv = gv := IntWalk.i64_in _ (by omega)
                  have HGN := Lib.hid (show n + 15 + d = lsN bs 1 (k + 1) ∧ lsG bs 1 false (k + 1) = false ∧ lsX bs 1 (k + 1) = lsX bs 1 k ++ [wagAt bs n] from ⟨by rw [HDA.out]; exact GN, GG, GX⟩)
                  clear GN GG GX
                  have s1 : (6 : Int) ≤ (M : Int) := by omega
                  have s2 : (9 : Int) ≤ (M : Int) := by omega
                  have s3 : (11 : Int) ≤ (M : Int) := by omega
                  have s4 : D ≠ 6 := by omega
                  have s5 : D ≠ 9 := by omega
                  have s6 : D ≠ 11 := by omega
                  have s7 : D ≠ 15 := by omega
                  have s8 : (8 : Int) < (M : Int) := by omega
                  have s9 : IntKind.i64.wrap (15 + (d : Int)) = 15 + (d : Int) := IntWalk.i64_in _ (by omega)
                  have s10 : (15 : Int) + (d : Int) ≤ (D : Int) := by omega
                  have s11 : (15 : Int) ≤ 15 + (d : Int) := by omega
                  have s12 : (0 : Int) ≤ 15 + (d : Int) := by omega
                  have s13 : (15 + (d : Int)).toNat = 15 + d := by omega
                  have HOW := Lib.hid (S.out.2.2.below BW.out)
                  have HBWR := Lib.hid (show Below w.heap.size w wr from B.out.trans (BW.out.mono B.out.size))
                  have HSW := Lib.hid (show w.heap.size ≤ wr.heap.size from Nat.le_trans B.out.size BW.out.size)
                  have hk255 : k ≤ 255 := by omega
                  have HKL := Lib.hid (show (lsX bs 1 k).length + 1 ≤ 1000000000 by rw [lsX_len]; omega)
                  have kp := fun (W : World) (hr : BRow W (some ad) bs) => (show W.cell? ⟨aN.block, aN.off + 8, none⟩ = some (.int .u8 (q 8)) ∧ W.cell? ⟨aN.block, aN.off + 13, none⟩ = some (.int .u8 y) ∧ (convert 24 9 (.slice (some ⟨aN.block, aN.off + 15, none⟩) d (D - 15))).run Try.prog W = .ok (.string dst) W from ⟨HRC.out W hr 8 (by decide) (by decide), by rw [← HYQ.out]; exact HRC.out W hr 13 (by decide) (by decide), HCV.out W hr⟩)
                  have KP := Lib.hid kp
                  obtain ⟨k8, k13, kcv⟩ := kp wr HRW.out
                  clear kp HM
                  have hgb2 : decide (16 ≤ y) = gb := hgb.symm
                  clear hgb
                  rcases hg3 with hg3 | hg3
                  all_goals
                    go_upto_region 24 with fail
                    go_region_held3 (fun w' => w'.cell? ⟨aN.block, aN.off + 8, none⟩ = some (.int .u8 (q 8)) ∧ w'.cell? ⟨aN.block, aN.off + 13, none⟩ = some (.int .u8 y) ∧ (convert 24 9 (.slice (some ⟨aN.block, aN.off + 15, none⟩) d (D - 15))).run Try.prog w' = .ok (.string dst) w')
                      (first | exact KP.out _ (HRW.out.below ⟨rfl, rfl, rfl, Nat.le_refl _, fun _ _ => rfl⟩) | exact KP.out _ ((HRW.out.drewN _).alloc _) | exact KP.out _ (H.out.below (app_below HBWR.out HSW.out HOW.out hA)))
                      (first | (go_at_call 43; refine (TJ.out _ _ (by exact HRW.out.below ⟨rfl, rfl, rfl, Nat.le_refl _, fun _ _ => rfl⟩) (by decide) (by decide)).mono ?_; rintro e w' ⟨rfl, m, rfl⟩) | (refine step_appW _ (by rfl) _ _ (by rfl) w.heap.size vo (lsX bs 1 k) (by rfl) (by exact ROwn.alloc (w := _) HOW.out _) [⟨nm, q 6 * 256 + q 7, q 8, q 9 * 256 + q 10, q 11 * 256 + q 12, gv, gb, dst⟩] _ (by rfl) _ (by rfl) 1 1 (by rfl) (by decide) (by rfl) (by exact HKL.out) (by exact le_alloc (w := _) HSW.out) ?_; intro v1 w1 hA))
                    all_goals
                      have HB2 := Lib.hid (app_below HBWR.out HSW.out HOW.out hA)
                      have OA := hA.1
                      have HOA := Lib.hid OA
                      clear OA hA k8 k13 kcv
                      go_wp2_with fail
                      go_roundw
                      case rel => exact ⟨k + 1, n + 15 + d, by omega, by have := HNB.out; omega, by go_num, by go_num, Lib.hid ⟨HGN.out.1, HGN.out.2.1, by rw [HGN.out.2.2, HWX.out]; exact HOA.out⟩, HB2⟩
                      case measure => simp [intOf]; omega
          · obtain rfl : k = C := by omega
            have HSZ := Lib.hid (lsX_sz (bs := bs) (n := 1) (c := k) H.out.bd HPS.out)
            have HO := Lib.hid S.out.2.2
            have HG := Lib.hid (show endG bs = false from HPG.out.trans S.out.2.1)
            obtain ⟨A5, c5, rfl, R5⟩ := ROwn.slice S.out.2.2
            have hvl := rlist_any _ A5 c5 wo R5 HSZ.out
            obtain ⟨xs, hxs⟩ : ∃ xs, xs = lsX bs 1 k := ⟨_, rfl⟩
            have HX := Lib.hid (show endX bs = xs from HPX.out.trans hxs.symm)
            rw [← hxs] at hvl HO
            rw [← hxs]
            clear hlt hk R5 S hxs
            go_wp2_with fail
            clear c0
            refine hvl.mono ?_
            rintro e w2 ⟨rfl, B2⟩
            have HB2 := Lib.hid (B.out.trans (B2.mono B.out.size))
            have HO2 := Lib.hid (HO.out.below B2)
            have HD2 := Lib.hid (show decR bs = if validL xs ≠ 0 then ([], validL xs) else (xs, 0) by rw [HD.out, HG.out, HX.out]; rfl)
            clear hvl B2
            by_cases hv : validL xs ≠ 0
            · have ev : (validL xs != 0) = true := bne_iff_ne.2 hv
              have HD3 := Lib.hid (HD2.out.trans (if_pos hv))
              go_wp2_with fail
              go_ret2
              exact DecPost.mk' HD3.out ROwn.nil HB2.out
            · have hv0 := Decidable.of_not_not hv
              have HD3 := Lib.hid (HD2.out.trans (if_neg hv))
              rw [hv0]
              go_wp2_with fail
              go_ret2
              exact DecPost.mk' HD3.out HO2.out HB2.out
      · have ev : (y0 * 256 + y1 != K) = true := bne_iff_ne.2 hk
        have HD := Lib.hid (dec_sum (bs := bs) (by rw [← HE.out, HL.out]) (fun g => hk (HS.out.2 g)))
        go_wp2_with fail
        go_ret2
        exact DecPost.mk' HD.out ROwn.nil HB1.out
end Go.Proofs.Ytjgeolfjhfdbmaa
