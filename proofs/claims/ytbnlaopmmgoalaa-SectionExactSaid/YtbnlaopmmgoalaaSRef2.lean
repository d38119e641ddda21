/-
  Stage 5: the reference: check, Count, State.
-/
import Derived.Test.YtbnlaopmmgoalaaSRef
set_option linter.unusedSimpArgs false
set_option linter.unusedVariables false
namespace Go.Proofs.Ytbnlaopmmgoalaa
open Go.RowKit

theorem chk_zero {l p : List Pul} {s : Int} (h : chkR l p s = 0) : Bor l ∧ l.length ≤ 64 ∧ run 0 p ∧ p.length ≤ 4096 ∧ 0 ≤ s ∧ s ≤ 31 := by
  unfold chkR at h
  by_cases h1 : bordR l = 0
  · rw [if_pos h1] at h
    by_cases h2 : validR p = 0
    · rw [if_pos h2] at h
      by_cases h3 : s < 0 ∨ 31 < s
      · rw [if_pos h3] at h; cases h
      · have b1 := bord_zero h1
        have b2 := valid_zero h2
        exact ⟨b1.1, b1.2, b2.1, b2.2, by omega, by omega⟩
    · rw [if_neg h2] at h; exact absurd h h2
  · rw [if_neg h1] at h; exact absurd h h1
set_option maxHeartbeats 800000 in
theorem rchk_any (l p : List Pul) (A A2 : Option Addr) (c c2 : Nat) (s : Int) (w : World) (h : PRow w A l) (h2 : PRow w A2 p) :
    Calls Try.prog 34 #[.slice A l.length c, .slice A2 p.length c2, .int .i64 s] w fun e w' => e = .returned (.int .i64 (chkR l p s)) ∧ Below w.heap.size w w' := by
  have hl : l.length ≤ 9223372036854775807 := h.len
  have hp : p.length ≤ 9223372036854775807 := h2.len
  have H := Lib.hid h
  have H2 := Lib.hid h2
  clear h h2
  go_enter Try.func34, Try.ntmps34
  go_wp2_with fail
  refine (rbvalid_any l A c w H.out).mono ?_
  rintro e w1 ⟨rfl, B1⟩
  have HB1 := Lib.hid B1
  obtain ⟨eb, heb⟩ : ∃ eb, eb = bordR l := ⟨_, rfl⟩
  have HEB := Lib.hid heb
  rw [← heb]
  clear B1 heb
  by_cases hb0 : eb = 0
  · subst hb0
    go_wp2_with fail
    refine (rvalid_any p A2 c2 w1 (H2.out.below HB1.out)).mono ?_
    rintro e w2 ⟨rfl, B2⟩
    have HB2 := Lib.hid (HB1.out.trans (B2.mono HB1.out.size))
    obtain ⟨ev, hev⟩ : ∃ ev, ev = validR p := ⟨_, rfl⟩
    have HEV := Lib.hid hev
    rw [← hev]
    clear B2 hev
    by_cases hv0 : ev = 0
    · subst hv0
      by_cases hs1 : s < 0
      · have HC := Lib.hid (show chkR l p s = 2 by unfold chkR; rw [if_pos HEB.out.symm, if_pos HEV.out.symm, if_pos (Or.inl hs1)])
        go_wp2_with fail
        go_ret
        exact ⟨ret_int HC.out.symm, HB2.out⟩
      · by_cases hs2 : 31 < s
        · have HC := Lib.hid (show chkR l p s = 2 by unfold chkR; rw [if_pos HEB.out.symm, if_pos HEV.out.symm, if_pos (Or.inr hs2)])
          go_wp2_with fail
          go_ret
          exact ⟨ret_int HC.out.symm, HB2.out⟩
        · have HC := Lib.hid (show chkR l p s = 0 by unfold chkR; rw [if_pos HEB.out.symm, if_pos HEV.out.symm, if_neg (by omega)])
          go_wp2_with fail
          go_ret
          exact ⟨ret_int HC.out.symm, HB2.out⟩
    · have HC := Lib.hid (show chkR l p s = ev by unfold chkR; rw [if_pos HEB.out.symm, if_neg (fun e => hv0 (HEV.out.trans e)), HEV.out])
      have hv1 : (ev == 0) = false := beq_eq_false_iff_ne.2 hv0
      clear hv0
      go_wp2_with fail
      go_ret
      exact ⟨ret_int HC.out.symm, HB2.out⟩
  · have HC := Lib.hid (show chkR l p s = eb by unfold chkR; rw [if_neg (fun e => hb0 (HEB.out.trans e)), HEB.out])
    have hb1 : (eb == 0) = false := beq_eq_false_iff_ne.2 hb0
    clear hb0
    go_wp2_with fail
    go_ret
    exact ⟨ret_int HC.out.symm, HB1.out⟩

set_option maxHeartbeats 800000 in
theorem rcount_any (l p : List Pul) (A A2 : Option Addr) (c c2 : Nat) (s r : Int) (w : World) (h : PRow w A l) (h2 : PRow w A2 p) :
    Calls Try.prog 27 #[.slice A l.length c, .slice A2 p.length c2, .int .i64 s, .int .i64 r] w fun e w' => e = .returned (R2 (countR l p s r)) ∧ Below w.heap.size w w' := by
  have hl : l.length ≤ 9223372036854775807 := h.len
  have hp : p.length ≤ 9223372036854775807 := h2.len
  have H := Lib.hid h
  have H2 := Lib.hid h2
  clear h h2
  go_enter Try.func27, Try.ntmps27
  go_wp2_with fail
  refine (rchk_any l p A A2 c c2 s w H.out H2.out).mono ?_
  rintro e w1 ⟨rfl, B1⟩
  have HB1 := Lib.hid B1
  obtain ⟨eb, heb⟩ : ∃ eb, eb = chkR l p s := ⟨_, rfl⟩
  have HEB := Lib.hid heb
  rw [← heb]
  clear B1 heb
  by_cases hb0 : eb = 0
  · subst hb0
    obtain ⟨hbor, _, hrun, hp4, _⟩ := chk_zero HEB.out.symm
    have HR := Lib.hid (run_mem hrun)
    have HBO := Lib.hid hbor
    have HT := Lib.hid (fun k => take_bd (f := effT l s r) (p := p) (fun x hx => effT_bd HBO.out (HR.out x hx) s r) k)
    obtain ⟨L, hL⟩ : ∃ n, n = p.length := ⟨_, rfl⟩
    have HL := Lib.hid hL
    rw [← hL] at hp hp4 ⊢
    clear hbor hrun hL
    go_wp2_with fail
    go_loopw [12, 11] (fun i nv wr => ∃ k : Nat, k ≤ L ∧ i = .int .i64 k ∧ ∃ n : Int, nv = .int .i64 n ∧ Hid (n = sum (effT l s r) (p.take k)) ∧ Hid (Below w.heap.size w wr)) (fun i _ _ => L - (intOf i).toNat)
    case atStart => exact ⟨0, by omega, rfl, 0, rfl, Lib.hid rfl, HB1⟩
    case round =>
      obtain ⟨k, hk, rfl, n, rfl, HN, B⟩ := hrel
      by_cases hlt : k < L
      · obtain ⟨ad, rfl, C⟩ := (H2.out.below B.out).at_ k (by rw [← HL.out]; exact hlt)
        obtain ⟨⟨d, t, z⟩, hpk⟩ : ∃ x, x = p.getD k (0, 0, 0) := ⟨_, rfl⟩
        have ht := take_at hpk (by rw [← HL.out]; exact hlt)
        have HX := Lib.hid (show okP (d, t, z) by rw [hpk]; exact HR.out _ (getD_memP (by rw [← HL.out]; exact hlt)))
        rw [← hpk] at C
        obtain ⟨c0, c1, c2⟩ := C.spelt
        simp only at c0 c1 c2
        have hnb : -(k : Int) ≤ n ∧ n ≤ k := by rw [HN.out]; exact HT.out k
        have HS := Lib.hid (sum_step (effT l s r) (p.take k) (d, t, z))
        have HT1 := Lib.hid ht
        clear C hpk ht
        by_cases htr : r < t
        · have HE := Lib.hid (show effT l s r (d, t, z) = eff l s (d, t, z) by unfold effT; exact if_pos htr)
          go_wp2_with fail
          refine (effect_any l A c d t z s wr (H.out.below B.out) HBO.out HX.out).mono ?_
          rintro e w2 ⟨rfl, B2⟩
          have HB2 := Lib.hid (B.out.trans (B2.mono B.out.size))
          have hb := eff_bd HBO.out HX.out s
          obtain ⟨x, hx⟩ : ∃ x, x = eff l s (d, t, z) := ⟨_, rfl⟩
          have HEX := Lib.hid hx
          rw [← hx] at hb ⊢
          clear hx B2 c0 c1 c2
          go_wp2_with fail
          go_roundw
          case rel => exact ⟨k + 1, by omega, by go_num, n + x, rfl, Lib.hid (by rw [HT1.out, HS.out, HE.out, HN.out, HEX.out]), HB2⟩
          case measure => simp [intOf]; omega
        · have HE := Lib.hid (show effT l s r (d, t, z) = 0 by unfold effT; exact if_neg htr)
          go_wp2_with fail
          go_roundw
          case rel => exact ⟨k + 1, by omega, by go_num, n, rfl, Lib.hid (by rw [HT1.out, HS.out, HE.out, Int.add_zero]; exact HN.out), B⟩
          case measure => simp [intOf]; omega
      · obtain rfl : k = L := by omega
        have hn := HN.out
        rw [HL.out, List.take_length] at hn
        have E := Lib.hid (show countR l p s r = (n, 0) by unfold countR; rw [if_pos HEB.out.symm, hn]; rfl)
        clear hn hlt hk
        go_wp2_with fail
        go_ret2
        exact ⟨ret_r2 E.out, B.out⟩
  · have E := Lib.hid (show countR l p s r = (0, eb) by unfold countR; rw [if_neg (fun e => hb0 (HEB.out.trans e)), HEB.out])
    have hb1 : (eb == 0) = false := beq_eq_false_iff_ne.2 hb0
    clear hb0
    go_wp2_with fail
    go_ret2
    exact ⟨ret_r2 E.out, HB1.out⟩

theorem neg_take (f : Pul → Int) (p : List Pul) (k : Nat) (h : neg f 0 (p.take k) = true) : neg f 0 p = true := by
  rw [← List.take_append_drop k p, neg_app, h]; rfl
set_option maxHeartbeats 800000 in
theorem rstate_any (l p : List Pul) (A A2 : Option Addr) (c c2 : Nat) (s r : Int) (w : World) (h : PRow w A l) (h2 : PRow w A2 p) :
    Calls Try.prog 28 #[.slice A l.length c, .slice A2 p.length c2, .int .i64 s, .int .i64 r] w fun e w' => e = .returned (R2 (stateR l p s r)) ∧ Below w.heap.size w w' := by
  have hl : l.length ≤ 9223372036854775807 := h.len
  have hp : p.length ≤ 9223372036854775807 := h2.len
  have H := Lib.hid h
  have H2 := Lib.hid h2
  clear h h2
  go_enter Try.func28, Try.ntmps28
  go_wp2_with fail
  refine (rchk_any l p A A2 c c2 s w H.out H2.out).mono ?_
  rintro e w1 ⟨rfl, B1⟩
  have HB1 := Lib.hid B1
  obtain ⟨eb, heb⟩ : ∃ eb, eb = chkR l p s := ⟨_, rfl⟩
  have HEB := Lib.hid heb
  rw [← heb]
  clear B1 heb
  by_cases hb0 : eb = 0
  · subst hb0
    obtain ⟨hbor, _, hrun, hp4, _⟩ := chk_zero HEB.out.symm
    have HR := Lib.hid (run_mem hrun)
    have HBO := Lib.hid hbor
    have HT := Lib.hid (fun k => take_bd (f := effT l s r) (p := p) (fun x hx => effT_bd HBO.out (HR.out x hx) s r) k)
    obtain ⟨L, hL⟩ : ∃ n, n = p.length := ⟨_, rfl⟩
    have HL := Lib.hid hL
    rw [← hL] at hp hp4 ⊢
    clear hbor hrun hL
    go_wp2_with fail
    go_loopw [12, 11] (fun i nv wr => ∃ k : Nat, k ≤ L ∧ i = .int .i64 k ∧ ∃ n : Int, nv = .int .i64 n ∧ 0 ≤ n ∧ Hid (n = sum (effT l s r) (p.take k)) ∧ Hid (neg (effT l s r) 0 (p.take k) = false) ∧ Hid (Below w.heap.size w wr)) (fun i _ _ => L - (intOf i).toNat)
    case atStart => exact ⟨0, by omega, rfl, 0, rfl, by omega, Lib.hid rfl, Lib.hid rfl, HB1⟩
    case round =>
      obtain ⟨k, hk, rfl, n, rfl, hn0, HN, HG, B⟩ := hrel
      by_cases hlt : k < L
      · obtain ⟨ad, rfl, C⟩ := (H2.out.below B.out).at_ k (by rw [← HL.out]; exact hlt)
        obtain ⟨⟨d, t, z⟩, hpk⟩ : ∃ x, x = p.getD k (0, 0, 0) := ⟨_, rfl⟩
        have ht := take_at hpk (by rw [← HL.out]; exact hlt)
        have HX := Lib.hid (show okP (d, t, z) by rw [hpk]; exact HR.out _ (getD_memP (by rw [← HL.out]; exact hlt)))
        rw [← hpk] at C
        obtain ⟨c0, c1, c2⟩ := C.spelt
        simp only at c0 c1 c2
        have hnb : -(k : Int) ≤ n ∧ n ≤ k := by rw [HN.out]; exact HT.out k
        have HS := Lib.hid (sum_step (effT l s r) (p.take k) (d, t, z))
        have HNS := Lib.hid (neg_step (effT l s r) (p.take k) (d, t, z))
        have HNK := Lib.hid (neg_skip (effT l s r) (p.take k) (d, t, z))
        have HT1 := Lib.hid ht
        clear C hpk ht
        by_cases htr : r < t
        · have HE := Lib.hid (show effT l s r (d, t, z) = eff l s (d, t, z) by unfold effT; exact if_pos htr)
          go_wp2_with fail
          refine (effect_any l A c d t z s wr (H.out.below B.out) HBO.out HX.out).mono ?_
          rintro e w2 ⟨rfl, B2⟩
          have HB2 := Lib.hid (B.out.trans (B2.mono B.out.size))
          have hb := eff_bd HBO.out HX.out s
          obtain ⟨x, hx⟩ : ∃ x, x = eff l s (d, t, z) := ⟨_, rfl⟩
          have HEX := Lib.hid (HE.out.trans hx.symm)
          rw [← hx] at hb ⊢
          clear hx B2 c0 c1 c2 HE
          by_cases hneg : n + x < 0
          · have HD := Lib.hid (show neg (effT l s r) 0 (p.take (k + 1)) = true by rw [HT1.out, HNS.out, HG.out, HEX.out, ← HN.out, decide_eq_true hneg]; rfl)
            have E := Lib.hid (show stateR l p s r = (2, 0) by unfold stateR; rw [if_pos HEB.out.symm, if_pos (show disR l p s r = true from neg_take _ p (k + 1) HD.out)])
            go_wp2_with fail
            go_ret2
            exact ⟨ret_r2 E.out, HB2.out⟩
          · have HD := Lib.hid (show neg (effT l s r) 0 (p.take (k + 1)) = false by rw [HT1.out, HNS.out, HG.out, HEX.out, ← HN.out, decide_eq_false hneg]; rfl)
            go_wp2_with fail
            go_roundw
            case rel => exact ⟨k + 1, by omega, by go_num, n + x, rfl, by omega, Lib.hid (by rw [HT1.out, HS.out, HN.out, HEX.out]), HD, HB2⟩
            case measure => simp [intOf]; omega
        · have HE := Lib.hid (show effT l s r (d, t, z) = 0 by unfold effT; exact if_neg htr)
          go_wp2_with fail
          go_roundw
          case rel => exact ⟨k + 1, by omega, by go_num, n, rfl, hn0, Lib.hid (by rw [HT1.out, HS.out, HE.out, Int.add_zero]; exact HN.out), Lib.hid (by rw [HT1.out, HNK.out HE.out]; exact HG.out), B⟩
          case measure => simp [intOf]; omega
      · obtain rfl : k = L := by omega
        have hn := HN.out
        have hg := HG.out
        rw [HL.out, List.take_length] at hn hg
        by_cases hpos : 0 < n
        · have E := Lib.hid (show stateR l p s r = (1, 0) by unfold stateR; rw [if_pos HEB.out.symm, if_neg (show ¬ disR l p s r = true by unfold disR; rw [hg]; decide), if_pos (by unfold cntR; rw [← hn]; exact hpos)])
          clear hn hg hlt hk
          go_wp2_with fail
          go_ret2
          exact ⟨ret_r2 E.out, B.out⟩
        · have E := Lib.hid (show stateR l p s r = (0, 0) by unfold stateR; rw [if_pos HEB.out.symm, if_neg (show ¬ disR l p s r = true by unfold disR; rw [hg]; decide), if_neg (by unfold cntR; rw [← hn]; exact hpos)])
          clear hn hg hlt hk
          go_wp2_with fail
          go_ret2
          exact ⟨ret_r2 E.out, B.out⟩
  · have E := Lib.hid (show stateR l p s r = (0, eb) by unfold stateR; rw [if_neg (fun e => hb0 (HEB.out.trans e)), HEB.out])
    have hb1 : (eb == 0) = false := beq_eq_false_iff_ne.2 hb0
    clear hb0
    go_wp2_with fail
    go_ret2
    exact ⟨ret_r2 E.out, HB1.out⟩
end Go.Proofs.Ytbnlaopmmgoalaa
