/-
  Stage 17: the walk of PlannerBest.
-/
import Derived.Test.YtimkmieohkefiaaGreatZGVp
set_option linter.unusedSimpArgs false
set_option linter.unusedVariables false
namespace Go.Proofs.YtimkmieohkefiaaGreat
open Go.RowKit Go.Lib

theorem steps_mono {v u : List Int} {st st' : Int} (hl : v.length = u.length) (h : StepsOf v st) (k : StepsOf u st') (hle : ∀ y, v.getD y 0 ≤ u.getD y 0) (h0 : ∀ y, 0 ≤ v.getD y 0) : st ≤ st' := by
  rcases h with ⟨rfl, rfl⟩ | ⟨M, hM, rfl⟩
  · rcases k with ⟨_, rfl⟩ | ⟨N, _, rfl⟩ <;> omega
  · rcases k with ⟨rfl, rfl⟩ | ⟨N, hN, rfl⟩
    · have : v = [] := List.length_eq_zero_iff.1 (by rw [hl]; rfl)
      subst this
      obtain ⟨x, hx, _⟩ := hM.hit
      exact absurd hx (by simp)
    · have h1 : M ≤ N := hM.mono (by rw [hl]; exact hN) (fun y _ => hle y)
      have := ln_mono (a := M.toNat) (b := N.toNat) (by omega)
      omega
/-- The geometric scheme is possible if any is, and never has more steps. -/
theorem geo_ex {l : List It} {s : Sc} (h : ScR l s) (hw : 0 ≤ s.wt ∧ s.wt ≤ 12) : ∃ g, ScR l g ∧ g.wt = 12 ∧ g.st ≤ s.st := by
  obtain ⟨hv, _, _⟩ := make_pl h.1
  rcases h.1.1 with ⟨h1, h2, _⟩ | ⟨_, h2, _⟩ | ⟨_, _, ⟨bs, h3⟩, h4⟩
  · exact absurd h2.symm h1
  · cases h2
  · have hf := formOk_of hv
    have hv0 : validR l 12 = 0 := (valid_w (by decide) (by decide)).trans ((valid_w hw.1 hw.2).symm.trans hv)
    have hf12 := formOk_of hv0
    have hp : Plan l 12 s.v := (h3.plan hf).more (by omega)
    obtain ⟨bs', v', h5⟩ := sol_ex hf12 hp
    obtain ⟨g, g1, g2, g3⟩ := sc_ex hv0 h5
    refine ⟨g, g1, g2, ?_⟩
    rcases g1.1.1 with ⟨k1, k2, _⟩ | ⟨_, k2, _⟩ | ⟨_, _, ⟨bs2, k3⟩, k4⟩
    · exact absurd k2.symm k1
    · cases k2
    · rw [g3] at k4
      have hb := h5.bound hf12
      have hb3 := h3.bound hf
      refine steps_mono (by rw [h5.vlen, h3.vlen]) k4 h4 (fun y => ?_) (fun y => (hb y).1.1)
      by_cases hy : y < l.length
      · exact (h5.least hf12 hp y hy).2
      · rw [(h5.rest y hy).1]; exact (hb3 y).1.1
def fndB (q : List Sc) (st0 : Int) (k : Nat) : Bool := (q.take k).any fun s => decide (s.wt = 12) && decide (s.st = st0)
theorem fndB_succ {q : List Sc} {st0 : Int} {k : Nat} {s : Sc} (hk : q[k]? = some s) : fndB q st0 (k + 1) = (fndB q st0 k || (decide (s.wt = 12) && decide (s.st = st0))) := by
  unfold fndB
  rw [List.take_add_one, hk, List.any_append]; simp
theorem fnd_all {l : List It} {q : List Sc} (hs : Srt17 (scL l) q) {s0 : Sc} (h0 : q[0]? = some s0) : fndB q s0.st q.length = true := by
  have h1 := srt_scr hs h0
  have h2 := wts_mem (srt_wt hs h0)
  obtain ⟨g, g1, g2, g3⟩ := geo_ex h1 h2
  have hg : g ∈ q := hs.perm.mem_iff.2 (scL_mem.2 ⟨g1, by rw [g2]; decide⟩)
  obtain ⟨i, hi⟩ := List.mem_iff_getElem?.1 hg
  have hil := (List.getElem?_eq_some_iff.1 hi).1
  have hst : s0.st ≤ g.st := by
    rcases Nat.eq_zero_or_pos i with rfl | hp
    · rw [h0] at hi; injection hi with hi; rw [hi]; exact Int.le_refl _
    · have h0l := (List.getElem?_eq_some_iff.1 h0).1
      have := List.pairwise_iff_getElem.1 hs.asc 0 i h0l hil hp
      rw [(List.getElem?_eq_some_iff.1 hi).2, (List.getElem?_eq_some_iff.1 h0).2] at this
      unfold Bf at this; omega
  unfold fndB
  rw [List.take_length, List.any_eq_true]
  exact ⟨g, hg, by rw [decide_eq_true g2, decide_eq_true (show g.st = s0.st by omega)]; rfl⟩
set_option maxRecDepth 100000 in
set_option maxHeartbeats 25600000 in
theorem best_walk (A : Option Addr) (c : Nat) (zs : List Int) (w : World) (hr : Row .i64 w w.heap.size A zs) (hm : zs.length ≤ maxLen) (hw : ∀ n ∈ zs, (Lit.int .i64 n).wf = true) :
    Calls Tryz.prog 7 #[.slice A zs.length c] w fun e w' => e = .returned (.bool true) ∧ Below w.heap.size w w' := by
  have K := Lib.hid (mk_row (c := c) (T := 90) hr hm hw)
  have B := Lib.hid ((Below.refl w.heap.size w).alloc (Nat.le_refl _) (.cells #[.slice A zs.length c, .int .i64 0] 90))
  clear hr hw
  go_enter Tryz.func7, Tryz.ntmps7
  go_wp2_with fail
  refine (new_any A zs.length c w).mono ?_
  rintro e w1 ⟨rfl, hw1⟩
  rw [← hw1] at K B
  clear hw1 hm
  go_wp2_with fail
  refine (mitems_any w.heap.size 0 14 w1 K.out (by omega) (by omega)).mono ?_
  rintro e w2 ⟨v2, l, rfl, O2, hl, hru, k2, m2⟩
  obtain ⟨IA, ic, rfl, IR, hIA⟩ := O2.args
  have HIR := Lib.hid IR
  have HV := Lib.hid (show validR l 0 = 0 from valid_of (by omega) hru (by decide))
  have B2 := Lib.hid (m2.below B.out (Nat.le_refl _) B.out.size)
  obtain ⟨L, hL⟩ : ∃ n, n = l.length := ⟨_, rfl⟩
  have HLL := Lib.hid hL
  rw [← hL]
  have HSC := Lib.hid (schemes_any l IA ic L hL w2 IR)
  have HSN := Lib.hid (fun (W : World) => sane17_any W)
  clear K B O2 hru k2 m2 hIA hL hl IR
  go_wp2_with fail
  refine HSC.out.mono ?_
  rintro e w3 (⟨h0, rfl, B3⟩ | ⟨h0, v3, q, rfl, hs, O3, B3⟩)
  · have h15 := (solE_cases HV.out).resolve_left h0
    rw [h15]
    have HB3 := Lib.hid (B2.out.trans (B3.mono B2.out.size))
    clear h0 h15 B3 HSC
    go_wp2_with fail
    refine (HSN.out _).mono ?_
    rintro e wc ⟨rfl, Bc⟩
    have HB := Lib.hid (HB3.out.trans (Bc.mono HB3.out.size))
    clear Bc
    go_wp2_with fail
    go_ret
    exact ⟨rfl, HB.out⟩
  · have HQ := Lib.hid hs
    have HI3 := Lib.hid (HIR.out.below B3)
    have HB3 := Lib.hid (B2.out.trans (B3.mono B2.out.size))
    have hqn : q.length ≠ 0 := by
      rw [hs.len]
      intro g
      unfold solE at h0
      rw [if_neg (fun k => k HV.out), if_pos g] at h0
      cases h0
    obtain ⟨s0, hs0⟩ : ∃ s, q[0]? = some s := ⟨_, List.getElem?_eq_getElem (by omega)⟩
    obtain ⟨A', c', rfl, RW⟩ := O3.slice
    obtain ⟨ad, rfl, CX0⟩ := RW.at_ hs0
    have HRW := Lib.hid RW
    have HS0 := Lib.hid hs0
    have HF := Lib.hid (fnd_all hs hs0)
    obtain ⟨st0, hst0⟩ : ∃ z, z = s0.st := ⟨_, rfl⟩
    have ea : ad.add (0 * 4) = ad := by unfold Addr.add; simp
    have HC0 := Lib.hid (show w3.cell? ⟨ad.block, ad.off + 1, none⟩ = some (.int .i64 st0) by
      have := CX0.next 1 (by decide) (u := .int .i64 s0.st) rfl
      rw [show ad.add (0 * SCR.m) = ad from ea] at this
      rw [hst0]; exact this)
    have HLB := Lib.hid CX0.lt
    rw [← hst0] at HF
    obtain ⟨n, hn⟩ : ∃ n, n = q.length := ⟨_, rfl⟩
    have HN := Lib.hid hn
    have HN4 := Lib.hid (show n ≤ 4 by rw [hn]; exact sch_len hs)
    rw [← hn] at HF ⊢
    have hn4 := HN4.out
    have hnp : (0 : Int) < (n : Int) := by omega
    clear h0 hs B3 hqn hs0 RW CX0 ea hst0 hn O3 HSC HIR B2
    go_upto_region 7 with fail
    obtain ⟨bb, hbb⟩ : ∃ b, b = w3.heap.size := ⟨_, rfl⟩
    have HBB := Lib.hid hbb
    clear hbb
    go_loopw [6, 33] (fun fv iv wr => ∃ k : Nat, k ≤ n ∧ iv = .int .i64 (k : Int) ∧ fv = .bool (fndB q st0 k) ∧ Hid (Below w3.heap.size w3 wr)) (fun _ iv _ => n - (intOf iv).toNat)
    case atStart => exact ⟨0, Nat.zero_le _, rfl, rfl, Lib.hid (Below.refl _ _)⟩
    case round =>
      obtain ⟨k, hk, rfl, rfl, HR⟩ := hrel
      by_cases hlt : k < n
      · obtain ⟨s, hx⟩ : ∃ x, q[k]? = some x := ⟨_, List.getElem?_eq_getElem (by rw [← HN.out]; exact hlt)⟩
        obtain ⟨ad', e', CX⟩ := (HRW.out.below HR.out).at_ hx
        injection e' with e'
        subst e'
        have HSR := Lib.hid (srt_scr HQ.out hx)
        have HFS := Lib.hid (fndB_succ (st0 := st0) hx)
        have HLT := Lib.hid hlt
        obtain ⟨fb, hfb⟩ : ∃ x, x = fndB q st0 k := ⟨_, rfl⟩
        rw [← hfb] at HFS ⊢
        clear hfb
        have HPRV := Lib.hid (show ∀ m p, k = m + 1 → q[m]? = some p → Bf p s from fun m p e hp => by
          have h1 := (List.getElem?_eq_some_iff.1 hp).1
          have h2 := (List.getElem?_eq_some_iff.1 hx).1
          have := List.pairwise_iff_getElem.1 HQ.out.asc m k h1 h2 (by omega)
          rw [(List.getElem?_eq_some_iff.1 hp).2, (List.getElem?_eq_some_iff.1 hx).2] at this
          exact this)
        obtain ⟨x0, x1, x2, x3, xv, xh⟩ := s
        have c0 : wr.cell? (ad.add (k * 4)) = some (.int .i64 x0) := CX.first rfl
        have c1 : wr.cell? ⟨(ad.add (k * 4)).block, (ad.add (k * 4)).off + 1, none⟩ = some (.int .i64 x1) := CX.next 1 (by decide) rfl
        have c2 : wr.cell? ⟨(ad.add (k * 4)).block, (ad.add (k * 4)).off + 2, none⟩ = some (.int .i64 x2) := CX.next 2 (by decide) rfl
        have c3 : wr.cell? ⟨(ad.add (k * 4)).block, (ad.add (k * 4)).off + 3, none⟩ = some (.int .i64 x3) := CX.next 3 (by decide) rfl
        have HMK := Lib.hid (fun (W : World) (j : Below w3.heap.size w3 W) => make_any l IA ic L x0 HLL.out W (HI3.out.below j))
        have HRU := Lib.hid (fun (st : Int) (v : List Int) (vA : Option Addr) (vn vc : Nat) (hn : vn = v.length) (hm : v.length ≤ maxLen) (W : World) (j : Below w3.heap.size w3 W) (hp : Row .i64 W W.heap.size vA v) => run_any l IA ic L x0 st v vA vn vc HLL.out hn W (HI3.out.below j) hp hm)
        have HPU := Lib.hid (fun (st : Int) (v : List Int) (vA : Option Addr) (vn vc : Nat) (hn : vn = v.length) (hm : v.length ≤ maxLen) (W : World) (j : Below w3.heap.size w3 W) (hp : Row .i64 W W.heap.size vA v) => pushes_any l IA ic L x0 st v vA vn vc HLL.out hn W (HI3.out.below j) hp hm)
        have e1 : (wr.alloc (.cells #[.int .i64 x0, .int .i64 x1, .int .i64 x2, .int .i64 x3] 70)).heap.size = wr.heap.size + 1 := by simp
        have b4 := box1W wr (.cells #[.int .i64 x0, .int .i64 x1, .int .i64 x2, .int .i64 x3] 70)
        have b5 := box1W (wr.alloc (.cells #[.int .i64 x0, .int .i64 x1, .int .i64 x2, .int .i64 x3] 70)) (.cells #[.slice IA L ic, .int .i64 x0] 37)
        have Y5 := Lib.hid (AB.below (show AB 70 (wr.alloc (.cells #[.int .i64 x0, .int .i64 x1, .int .i64 x2, .int .i64 x3] 70)) wr.heap.size [.int .i64 x0, .int .i64 x1, .int .i64 x2, .int .i64 x3] from AB.new wr [.int .i64 x0, .int .i64 x1, .int .i64 x2, .int .i64 x3] 70 wr.heap.size rfl) b5 (by rw [e1]; exact Nat.lt_succ_self _))
        have J5 := Lib.hid (JBox.new (w := wr.alloc (.cells #[.int .i64 x0, .int .i64 x1, .int .i64 x2, .int .i64 x3] 70)) (A := IA) (n := L) (c := ic) (wt := x0) (wr.heap.size + 1) e1.symm)
        have y0 : (wr.alloc (.cells #[.int .i64 x0, .int .i64 x1, .int .i64 x2, .int .i64 x3] 70)).cell? ⟨wr.heap.size, 0, none⟩ = some (.int .i64 x0) := by rw [cell_new]; rfl
        have R5 := Lib.hid (HR.out.trans ((b4.trans (b5.mono b4.size)).mono HR.out.size))
        clear CX hx HR b4 b5 e1
        go_upto_region 10 with fail
        obtain ⟨y, hy⟩ : ∃ y, y = wr.heap.size := ⟨_, rfl⟩
        rw [← hy] at Y5 J5 ⊢
        generalize (wr.alloc (.cells #[.int .i64 x0, .int .i64 x1, .int .i64 x2, .int .i64 x3] 70)).alloc (.cells #[.slice IA L ic, .int .i64 x0] 37) = w5 at *
        clear hy c0 c1 c2 c3 y0
        obtain ⟨j0, j1, jl⟩ := J5.out
        go_wp2_with fail
        refine (HMK.out w5 R5.out).mono ?_
        rintro e w6 ⟨st, vA, vn, vc, uA, un, uc, er, v, ch, rfl, OV, OU, B6, hr⟩
        obtain ⟨rfl, rfl, rfl, rfl⟩ := hr.uniq HSR.out.1
        have BX := box1W w6 (qcells st vA vn vc uA un uc)
        have B57 := B6.trans (BX.mono B6.size)
        have Y7 := Lib.hid (Y5.out.below B57 Y5.out.lt)
        have J7 := Lib.hid (J5.out.below B57 J5.out.lt)
        have Q7 := Lib.hid (QBox.new (w := w6) (st := st) (A := vA) (n := vn) (c := vc) (B := uA) (m := un) (d := uc) w6.heap.size rfl)
        have R7 := Lib.hid (R5.out.trans (B57.mono R5.out.size))
        have OV7 := Lib.hid (OV.below BX)
        clear j0 j1 jl Y5 J5 OV OU B6 hr BX B57 R5 HMK
        go_upto_region 11 with fail
        obtain ⟨g, hg⟩ : ∃ g, g = w6.heap.size := ⟨_, rfl⟩
        rw [← hg] at Q7 ⊢
        generalize w6.alloc (qcells st vA vn vc uA un uc) = w7 at *
        clear hg
        have hov := own_read OV7.out
        have HRC := Lib.hid (HRU.out st v vA vn vc hov.1 hov.2.2 w7 R7.out hov.2.1)
        have H14 := Lib.hid (make_pl HSR.out.1).2.1
        have HVN := Lib.hid (And.intro hov.1 hov.2.2)
        clear hov HRU
        obtain ⟨j0, j1, jl⟩ := J7.out
        obtain ⟨q0, q1, q2, qf, ql⟩ := Q7.out
        clear qf
        go_wp2_with fail
        refine HRC.out.mono ?_
        intro e w8 hp8
        obtain ⟨RA, rn, rc, rfl, B8⟩ := run_ok hp8 H14.out
        have hmv : mvZ l st v = x2 := HSR.out.2.1.symm
        rw [hmv]
        have BY := box1W w8 (.cells #[.slice RA rn rc, .int .i64 x2] 79)
        have B79 := B8.trans (BY.mono B8.size)
        have Y9 := Lib.hid (Y7.out.below B79 Y7.out.lt)
        have J9 := Lib.hid (J7.out.below B79 J7.out.lt)
        have Q9 := Lib.hid (Q7.out.below B79 Q7.out.lt)
        have S9 := Lib.hid (show AB 79 (w8.alloc (.cells #[.slice RA rn rc, .int .i64 x2] 79)) w8.heap.size [.slice RA rn rc, .int .i64 x2] from AB.new w8 [.slice RA rn rc, .int .i64 x2] 79 w8.heap.size rfl)
        have R9 := Lib.hid (R7.out.trans (B79.mono R7.out.size))
        have OV9 := Lib.hid (OV7.out.below B79)
        clear j0 j1 jl q0 q1 q2 ql Y7 J7 Q7 R7 OV7 B8 BY B79 hp8 hmv HRC
        go_upto_region 12 with fail
        obtain ⟨sb, hsb⟩ : ∃ g, g = w8.heap.size := ⟨_, rfl⟩
        rw [← hsb] at S9 ⊢
        generalize w8.alloc (.cells #[.slice RA rn rc, .int .i64 x2] 79) = w9 at *
        clear hsb
        have HPC := Lib.hid (HPU.out st v vA vn vc HVN.out.1 HVN.out.2 w9 R9.out (own_read OV9.out).2.1)
        rw [push_ok H14.out, show (pushZ l x0 st v).1 = x3 from HSR.out.2.2.symm] at HPC
        clear HPU
        obtain ⟨j0, j1, jl⟩ := J9.out
        obtain ⟨q0, q1, q2, qf, ql⟩ := Q9.out
        clear qf
        go_wp2_with fail
        refine HPC.out.mono ?_
        rintro e wd ⟨rfl, Bd⟩
        have Yd := Lib.hid (Y9.out.below Bd Y9.out.lt)
        have Sd := Lib.hid (S9.out.below Bd S9.out.lt)
        have Rd := Lib.hid (R9.out.trans (Bd.mono R9.out.size))
        have qd := (Bd.cell (p := ⟨g, 0, none⟩) Q9.out.lt).trans Q9.out.c0
        have y0 := Yd.out.cell 0 (u := .int .i64 x0) rfl
        have y1 := Yd.out.cell 1 (u := .int .i64 st) rfl
        have y2 := Yd.out.cell 2 (u := .int .i64 x2) rfl
        have y3 := Yd.out.cell 3 (u := .int .i64 x3) rfl
        have s1 := Sd.out.cell 1 (u := .int .i64 x2) rfl
        clear j0 j1 jl q0 q1 q2 ql Y9 J9 Q9 S9 R9 OV9 Bd HPC
        have d0 := (Rd.out.cell (p := ⟨ad.block, ad.off + 1, none⟩) HLB.out).trans HC0.out
        have HFN := Lib.hid (show ∀ b, b = (fb || (decide (x0 = 12) && decide (st = st0))) → b = fndB q st0 (k + 1) from fun b e => by rw [e]; exact HFS.out.symm)
        go_upto_region 15 with fail
        clear y2 y3 s1 qd
        go_cut [6] from 92 to 106 (fun bv wx => Hid (bv = .bool (fndB q st0 (k + 1))) ∧ Hid (Below wd.heap.size wd wx))
        case first =>
          have HWD := Lib.hid (Below.refl wd.heap.size wd)
          cases fb with
          | true =>
            go_quiet (fail)
            go_wp2_with fail
            go_meet
            case rel => exact ⟨Lib.hid (by rw [← HFN.out true (by simp)]), Lib.hid (bdn HWD.out)⟩
          | false =>
            by_cases h12 : x0 = 12
            · by_cases hst : st = st0
              · have hE := Lib.hid (HFN.out true (by rw [decide_eq_true h12, decide_eq_true hst]; rfl))
                have b12 : (x0 == 12) = true := by simp [h12]
                have bst : (st == st0) = true := by simp [hst]
                clear h12 hst
                go_quiet (fail)
                go_wp2_with fail
                go_meet
                case rel => exact ⟨Lib.hid (by rw [← hE.out]), Lib.hid (bdn HWD.out)⟩
              · have hE := Lib.hid (HFN.out false (by rw [decide_eq_false hst]; simp))
                have b12 : (x0 == 12) = true := by simp [h12]
                have bst : (st == st0) = false := by simp [hst]
                clear h12 hst
                go_quiet (fail)
                go_wp2_with fail
                go_meet
                case rel => exact ⟨Lib.hid (by rw [← hE.out]), Lib.hid (bdn HWD.out)⟩
            · have hE := Lib.hid (HFN.out false (by rw [decide_eq_false h12]; simp))
              have b12 : (x0 == 12) = false := by simp [h12]
              clear h12
              go_quiet (fail)
              go_wp2_with fail
              go_meet
              case rel => exact ⟨Lib.hid (by rw [← hE.out]), Lib.hid (bdn HWD.out)⟩
        case rest =>
          obtain ⟨HBV, HWX⟩ := hcut
          obtain rfl := HBV.out
          clear y0 y1 d0 HFN
          have Ye := Lib.hid (Yd.out.below HWX.out Yd.out.lt)
          have Re := Lib.hid (Rd.out.trans (HWX.out.mono Rd.out.size))
          have y0 := Ye.out.cell 0 (u := .int .i64 x0) rfl
          have y1 := Ye.out.cell 1 (u := .int .i64 st) rfl
          have y2 := Ye.out.cell 2 (u := .int .i64 x2) rfl
          go_upto_region 16 with fail
          go_cut [163] from 107 to 163 (fun bv wx => Hid (bv = .bool false) ∧ Hid (Below wc.heap.size wc wx))
          case first =>
            have HWC := Lib.hid (Below.refl wc.heap.size wc)
            rcases k with _ | m
            · go_quiet (fail)
              go_wp2_with fail
              go_meet
              case rel => exact ⟨Lib.hid rfl, Lib.hid (bdn HWC.out)⟩
            · obtain ⟨pp, hpp⟩ : ∃ p, q[m]? = some p := ⟨_, List.getElem?_eq_getElem (by rw [← HN.out]; have := HLT.out; omega)⟩
              have hbf := HPRV.out m pp rfl hpp
              obtain ⟨ad', e', PX⟩ := (HRW.out.below Re.out).at_ hpp
              injection e' with e'
              subst e'
              obtain ⟨p0, p1, p2, p3, pv, ph⟩ := pp
              unfold Bf at hbf
              simp only at hbf
              have g0 : wc.cell? (ad.add (m * 4)) = some (.int .i64 p0) := PX.first rfl
              have g1 : wc.cell? ⟨(ad.add (m * 4)).block, (ad.add (m * 4)).off + 1, none⟩ = some (.int .i64 p1) := PX.next 1 (by decide) rfl
              have g2 : wc.cell? ⟨(ad.add (m * 4)).block, (ad.add (m * 4)).off + 2, none⟩ = some (.int .i64 p2) := PX.next 2 (by decide) rfl
              have HMN := Lib.hid (show m + 1 < n from HLT.out)
              have hm0 : (0 : Int) < (m : Int) + 1 := by omega
              have hmn : (m : Int) < (n : Int) := by have := HLT.out; omega
              clear PX hpp
              rcases hbf with h1 | ⟨h1, h2 | ⟨h2, h3⟩⟩
              · have t1 : ¬ st < p1 := by omega
                have t2 : (st == p1) = false := by simp; omega
                clear h1
                go_quiet (fail)
                go_wp2_with fail
                go_meet
                case rel => exact ⟨Lib.hid rfl, Lib.hid (bdn HWC.out)⟩
              · have t1 : ¬ st < p1 := by omega
                have t2 : (st == p1) = true := by simp; omega
                have t3 : ¬ x2 < p2 := by omega
                have t4 : (x2 == p2) = false := by simp; omega
                clear h1 h2
                go_quiet (fail)
                go_wp2_with fail
                go_meet
                case rel => exact ⟨Lib.hid rfl, Lib.hid (bdn HWC.out)⟩
              · have t1 : ¬ st < p1 := by omega
                have t2 : (st == p1) = true := by simp; omega
                have t3 : ¬ x2 < p2 := by omega
                have t4 : (x2 == p2) = true := by simp; omega
                have t5 : ¬ x0 ≤ p0 := by omega
                clear h1 h2 h3
                go_quiet (fail)
                go_wp2_with fail
                go_meet
                case rel => exact ⟨Lib.hid rfl, Lib.hid (bdn HWC.out)⟩
          case rest =>
            obtain ⟨HBV2, HWX2⟩ := hcut
            obtain rfl := HBV2.out
            clear y0 y1 y2
            have Rf := Lib.hid (Re.out.trans (HWX2.out.mono Re.out.size))
            go_wp2_with fail
            go_roundw
            case rel => exact ⟨k + 1, by have := HLT.out; omega, by go_num, rfl, Rf⟩
            case measure => simp [intOf]; have := HLT.out; omega
      · have HKN := Lib.hid (show fndB q st0 k = true by
          have : k = n := by omega
          rw [this]; exact HF.out)
        rw [HKN.out]
        have HB1 := Lib.hid (HB3.out.trans (HR.out.mono HB3.out.size))
        clear HR
        go_wp2_with fail
        refine (HSN.out _).mono ?_
        rintro e wx ⟨rfl, Bx⟩
        have HB := Lib.hid (HB1.out.trans (Bx.mono HB1.out.size))
        clear Bx
        go_wp2_with fail
        go_ret
        exact ⟨rfl, HB.out⟩
theorem best_law (a : Option Addr) (len cap : Nat) (zs : List Int) (w : World) (h : IsRow .i64 w a len cap zs) : Calls Tryz.prog 7 #[.slice a len cap] w fun e w' => e = .returned (.bool true) ∧ Below w.heap.size w w' := by
  obtain ⟨l, rfl, hr, hm, hw⟩ := h.row
  exact best_walk a cap l w hr hm hw
end Go.Proofs.YtimkmieohkefiaaGreat
