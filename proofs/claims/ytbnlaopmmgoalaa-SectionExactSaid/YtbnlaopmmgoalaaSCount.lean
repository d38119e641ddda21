/-
  Stage 5: the program's count, Count, State.
-/
import Derived.Test.YtbnlaopmmgoalaaSSens
set_option linter.unusedSimpArgs false
set_option linter.unusedVariables false
namespace Go.Proofs.Ytbnlaopmmgoalaa
open Go.RowKit

theorem neg_step (f : Pul → Int) (q : List Pul) (x : Pul) : neg f 0 (q ++ [x]) = (neg f 0 q || decide (sum f q + f x < 0)) := by
  rw [neg_app]
  show (_ || (decide (0 + sum f q + f x < 0) || false)) = _
  rw [Bool.or_false, Int.zero_add]
theorem neg_skip (f : Pul → Int) (q : List Pul) (x : Pul) (h : f x = 0) : neg f 0 (q ++ [x]) = neg f 0 q := by
  rw [neg_step, h, Int.add_zero]
  by_cases g : sum f q < 0
  · rw [neg_last f 0 q (Int.le_refl _) (by omega)]; rfl
  · rw [decide_eq_false g, Bool.or_false]
theorem sum_step (f : Pul → Int) (q : List Pul) (x : Pul) : sum f (q ++ [x]) = sum f q + f x := by
  rw [sum_app]
  show _ + (f x + 0) = _
  rw [Int.add_zero]
theorem take_bd {f : Pul → Int} {p : List Pul} (h : ∀ x ∈ p, -1 ≤ f x ∧ f x ≤ 1) (k : Nat) : -(k : Int) ≤ sum f (p.take k) ∧ sum f (p.take k) ≤ k := by
  have := sum_bd (f := f) (p := p.take k) fun x hx => h x (List.mem_of_mem_take hx)
  rw [List.length_take] at this
  omega
def countTR (l p : List Pul) (s r : Int) : Int × Bool × Int := if chkR l p s = 0 then (cntR l p s r, disR l p s r, 0) else (0, false, chkR l p s)
def CntPost (l p : List Pul) (s r : Int) (w : World) (e : Ending) (w' : World) : Prop := e = .returned (.tuple #[.int .i64 (countTR l p s r).1, .bool (countTR l p s r).2.1, .int .i64 (countTR l p s r).2.2]) ∧ Below w.heap.size w w'
theorem CntPost.bad {l p : List Pul} {s r x : Int} {w w' : World} {e : Ending} (h : chkR l p s = x) (hx : x ≠ 0) (h1 : e = .returned (.tuple #[.int .i64 0, .bool false, .int .i64 x])) (h2 : Below w.heap.size w w') : CntPost l p s r w e w' := by
  unfold CntPost countTR
  rw [if_neg (by rw [h]; exact hx), h]
  exact ⟨h1, h2⟩
theorem CntPost.good {l p : List Pul} {s r n : Int} {b : Bool} {w w' : World} {e : Ending} (h : chkR l p s = 0) (hn : n = cntR l p s r) (hb : b = disR l p s r) (h1 : e = .returned (.tuple #[.int .i64 n, .bool b, .int .i64 0])) (h2 : Below w.heap.size w w') : CntPost l p s r w e w' := by
  unfold CntPost countTR
  rw [if_pos h]
  subst hn; subst hb
  exact ⟨h1, h2⟩

set_option maxHeartbeats 1600000 in
theorem count_any (l p : List Pul) (A A2 : Option Addr) (c c2 : Nat) (s r : Int) (w : World) (h : PRow w A l) (h2 : PRow w A2 p) :
    Calls Try.prog 31 #[.slice A l.length c, .slice A2 p.length c2, .int .i64 s, .int .i64 r] w (CntPost l p s r w) := by
  have hl : l.length ≤ 9223372036854775807 := h.len
  have hp : p.length ≤ 9223372036854775807 := h2.len
  have H := Lib.hid h
  have H2 := Lib.hid h2
  clear h h2
  go_enter Try.func31, Try.ntmps31
  go_wp2_with fail
  refine (sens_any l A c w H.out).mono ?_
  rintro e w1 ⟨v, rfl, B1, hm⟩
  have HB1 := Lib.hid B1
  have HM := Lib.hid hm
  obtain ⟨eb, heb⟩ : ∃ eb, eb = bordR l := ⟨_, rfl⟩
  have HEB := Lib.hid heb
  rw [← heb]
  clear B1 hm heb
  by_cases hb0 : eb = 0
  · subst hb0
    have HP2 := Lib.hid (H2.out.below HB1.out)
    go_wp2_with fail
    refine (valid_any p A2 c2 w1 HP2.out).mono ?_
    rintro e w2 ⟨rfl, B2⟩
    have HB2 := Lib.hid (HB1.out.trans (B2.mono HB1.out.size))
    obtain ⟨m, rfl, M0⟩ := HM.out HEB.out.symm
    have M := Lib.hid (M0.below B2)
    obtain ⟨ev, hev⟩ : ∃ ev, ev = validR p := ⟨_, rfl⟩
    have HEV := Lib.hid hev
    rw [← hev]
    clear B2 M0 hev
    by_cases hv0 : ev = 0
    · subst hv0
      obtain ⟨hrun, hp4⟩ := valid_zero HEV.out.symm
      obtain ⟨hbor, _⟩ := bord_zero HEB.out.symm
      have HR := Lib.hid (run_mem hrun)
      have HBO := Lib.hid hbor
      clear hrun hbor
      by_cases hs1 : s < 0
      · have HC := Lib.hid (show chkR l p s = 2 by unfold chkR; rw [if_pos HEB.out.symm, if_pos HEV.out.symm, if_pos (Or.inl hs1)])
        go_wp2_with fail
        go_ret3
        exact CntPost.bad HC.out (by decide) rfl HB2.out
      · by_cases hs2 : 31 < s
        · have HC := Lib.hid (show chkR l p s = 2 by unfold chkR; rw [if_pos HEB.out.symm, if_pos HEV.out.symm, if_pos (Or.inr hs2)])
          go_wp2_with fail
          go_ret3
          exact CntPost.bad HC.out (by decide) rfl HB2.out
        · have HC := Lib.hid (show chkR l p s = 0 by unfold chkR; rw [if_pos HEB.out.symm, if_pos HEV.out.symm, if_neg (by omega)])
          have HWS := Lib.hid (show (Lit.int .i64 s).wf = true from wf_small (by omega))
          obtain ⟨L, hL⟩ : ∃ n, n = p.length := ⟨_, rfl⟩
          have HL := Lib.hid hL
          rw [← hL] at hp hp4 ⊢
          have HT := Lib.hid (fun k => take_bd (f := effT l s r) (p := p) (fun x hx => effT_bd HBO.out (HR.out x hx) s r) k)
          clear hL
          go_wp2_with fail
          go_loopw [37, 8, 9] (fun i nv bv wr => ∃ k : Nat, k ≤ L ∧ i = .int .i64 k ∧ ∃ (n : Int) (b : Bool), nv = .int .i64 n ∧ bv = .bool b ∧ Hid (n = sum (effT l s r) (p.take k)) ∧ Hid (b = neg (effT l s r) 0 (p.take k)) ∧ Hid (Below w.heap.size w wr) ∧ Hid (SMap wr m 64 (sen l))) (fun i _ _ _ => L - (intOf i).toNat)
          case atStart => exact ⟨0, by omega, rfl, 0, false, rfl, rfl, Lib.hid rfl, Lib.hid rfl, HB2, M⟩
          case round =>
            clear M HB2 HB1 HP2 HM
            obtain ⟨k, hk, rfl, n, b, rfl, rfl, HN, HG, B, M⟩ := hrel
            by_cases hlt : k < L
            · obtain ⟨ad, rfl, C⟩ := (H2.out.below B.out).at_ k (by rw [← HL.out]; exact hlt)
              obtain ⟨⟨d, t, z⟩, hpk⟩ : ∃ x, x = p.getD k (0, 0, 0) := ⟨_, rfl⟩
              have ht := take_at hpk (by rw [← HL.out]; exact hlt)
              have hox : okP (d, t, z) := by rw [hpk]; exact HR.out _ (getD_memP (by rw [← HL.out]; exact hlt))
              rw [← hpk] at C
              obtain ⟨c0, c1, c2⟩ := C.spelt
              have hd : (Lit.int .i64 d).wf = true := wf_small (by have := hox.1; simp only at this; omega)
              have M1 := Lib.hid (M.out.alloc (.cells #[.int .i64 d, .int .i64 t, .int .i64 z] 40))
              have hlook := M1.out.look s d HWS.out hd
              have hnb : -(k : Int) ≤ n ∧ n ≤ k := by rw [HN.out]; exact HT.out k
              have hz : z = 1 ∨ z = -1 := hox.2.2
              have HS := Lib.hid (sum_step (effT l s r) (p.take k) (d, t, z))
              have HNS := Lib.hid (neg_step (effT l s r) (p.take k) (d, t, z))
              have HNK := Lib.hid (neg_skip (effT l s r) (p.take k) (d, t, z))
              have HT1 := Lib.hid ht
              have HB := Lib.hid (B.out.alloc B.out.size (.cells #[.int .i64 d, .int .i64 t, .int .i64 z] 40))
              clear C hpk ht hox hd B M
              cases hsen : sen l s d with
              | none =>
                rw [hsen] at hlook
                have HE := Lib.hid (show effT l s r (d, t, z) = 0 by unfold effT eff; simp only [hsen]; split <;> rfl)
                clear hsen hz
                go_wp2_with fail
                go_roundw
                case rel => exact ⟨k + 1, by omega, by go_num, n, b, rfl, rfl, Lib.hid (by rw [HT1.out, HS.out, HE.out, Int.add_zero]; exact HN.out), Lib.hid (by rw [HT1.out, HNK.out HE.out]; exact HG.out), HB, M1⟩
                case measure => simp [intOf]; omega
              | some y =>
                rw [hsen] at hlook
                have hy : y = 1 ∨ y = -1 := HBO.out.sense hsen
                by_cases htr : t ≤ r
                · have HE := Lib.hid (show effT l s r (d, t, z) = 0 by unfold effT; rw [if_neg (by simp only; omega)])
                  clear hsen hz hy
                  go_wp2_with fail
                  go_roundw
                  case rel => exact ⟨k + 1, by omega, by go_num, n, b, rfl, rfl, Lib.hid (by rw [HT1.out, HS.out, HE.out, Int.add_zero]; exact HN.out), Lib.hid (by rw [HT1.out, HNK.out HE.out]; exact HG.out), HB, M1⟩
                  case measure => simp [intOf]; omega
                · have HE := Lib.hid (show effT l s r (d, t, z) = z * y by unfold effT eff; simp only [hsen]; rw [if_pos (by omega)])
                  clear hsen
                  obtain ⟨x, hx⟩ : ∃ x, x = z * y := ⟨_, rfl⟩
                  have hx1 : -1 ≤ x ∧ x ≤ 1 := by
                    rw [hx]
                    rcases hz with rfl | rfl <;> rcases hy with rfl | rfl <;> decide
                  have hxw : wrap64 (z * y) = x := by rw [← hx]; exact IntWalk.wrap64_in _ (by omega)
                  have HX := Lib.hid hx
                  clear hx hz hy
                  have hs1' : effT l s r (d, t, z) = x := HE.out.trans HX.out.symm
                  have HE2 := Lib.hid hs1'
                  clear hs1' HE HX
                  cases b with
                  | true =>
                    go_wp2_with fail
                    go_roundw
                    case rel => exact ⟨k + 1, by omega, by go_num, n + x, true, rfl, rfl, Lib.hid (by rw [HT1.out, HS.out, HE2.out, HN.out]), Lib.hid (by rw [HT1.out, HNS.out, ← HG.out]; rfl), HB, M1⟩
                    case measure => simp [intOf]; omega
                  | false =>
                    by_cases hneg : n + x < 0
                    · have HD := Lib.hid (decide_eq_true hneg)
                      go_wp2_with fail
                      go_roundw
                      case rel => exact ⟨k + 1, by omega, by go_num, n + x, true, rfl, rfl, Lib.hid (by rw [HT1.out, HS.out, HE2.out, HN.out]), Lib.hid (by rw [HT1.out, HNS.out, ← HG.out, HE2.out, ← HN.out, HD.out]; rfl), HB, M1⟩
                      case measure => simp [intOf]; omega
                    · have HD := Lib.hid (decide_eq_false hneg)
                      go_wp2_with fail
                      go_roundw
                      case rel => exact ⟨k + 1, by omega, by go_num, n + x, false, rfl, rfl, Lib.hid (by rw [HT1.out, HS.out, HE2.out, HN.out]), Lib.hid (by rw [HT1.out, HNS.out, ← HG.out, HE2.out, ← HN.out, HD.out]; rfl), HB, M1⟩
                      case measure => simp [intOf]; omega
            · obtain rfl : k = L := by omega
              have hn := HN.out
              have hg := HG.out
              rw [HL.out, List.take_length] at hn hg
              have HN2 := Lib.hid hn
              have HG2 := Lib.hid hg
              clear hn hg hlt hk
              go_wp2_with fail
              go_ret3
              exact CntPost.good HC.out HN2.out HG2.out rfl B.out
    · have HC := Lib.hid (show chkR l p s = ev by unfold chkR; rw [if_pos HEB.out.symm, if_neg (fun e => hv0 (HEV.out.trans e)), HEV.out])
      have hv1 : (ev == 0) = false := beq_eq_false_iff_ne.2 hv0
      have HV0 := Lib.hid hv0
      clear hv0
      go_wp2_with fail
      go_ret3
      exact CntPost.bad HC.out HV0.out rfl HB2.out
  · have HC := Lib.hid (show chkR l p s = eb by unfold chkR; rw [if_neg (fun e => hb0 (HEB.out.trans e)), HEB.out])
    have hb1 : (eb == 0) = false := beq_eq_false_iff_ne.2 hb0
    have HB0 := Lib.hid hb0
    clear hb0
    go_wp2_with fail
    go_ret3
    exact CntPost.bad HC.out HB0.out rfl HB1.out

theorem countT_count (l p : List Pul) (s r : Int) : ((countTR l p s r).1, (countTR l p s r).2.2) = countR l p s r := by
  unfold countTR countR
  split <;> rfl
set_option maxHeartbeats 800000 in
theorem pcount_any (l p : List Pul) (A A2 : Option Addr) (c c2 : Nat) (s r : Int) (w : World) (h : PRow w A l) (h2 : PRow w A2 p) :
    Calls Try.prog 19 #[.slice A l.length c, .slice A2 p.length c2, .int .i64 s, .int .i64 r] w fun e w' => e = .returned (R2 (countR l p s r)) ∧ Below w.heap.size w w' := by
  have hl : l.length ≤ 9223372036854775807 := h.len
  have hp : p.length ≤ 9223372036854775807 := h2.len
  have H := Lib.hid h
  have H2 := Lib.hid h2
  clear h h2
  go_enter Try.func19, Try.ntmps19
  go_wp2_with fail
  refine (count_any l p A A2 c c2 s r w H.out H2.out).mono ?_
  rintro e w1 ⟨rfl, B1⟩
  have E := Lib.hid (countT_count l p s r).symm
  go_wp2_with fail
  go_ret2
  exact ⟨ret_r2 E.out, B1⟩
set_option maxHeartbeats 800000 in
theorem pstate_any (l p : List Pul) (A A2 : Option Addr) (c c2 : Nat) (s r : Int) (w : World) (h : PRow w A l) (h2 : PRow w A2 p) :
    Calls Try.prog 23 #[.slice A l.length c, .slice A2 p.length c2, .int .i64 s, .int .i64 r] w fun e w' => e = .returned (R2 (stateR l p s r)) ∧ Below w.heap.size w w' := by
  have hl : l.length ≤ 9223372036854775807 := h.len
  have hp : p.length ≤ 9223372036854775807 := h2.len
  have H := Lib.hid h
  have H2 := Lib.hid h2
  clear h h2
  go_enter Try.func23, Try.ntmps23
  go_wp2_with fail
  refine (count_any l p A A2 c c2 s r w H.out H2.out).mono ?_
  rintro e w1 ⟨rfl, B1⟩
  obtain ⟨n, b, x, hc⟩ : ∃ n b x, countTR l p s r = (n, b, x) := ⟨_, _, _, rfl⟩
  rw [hc]
  unfold countTR at hc
  by_cases h0 : chkR l p s = 0
  · rw [if_pos h0] at hc
    injection hc with c1 hc
    injection hc with c2 c3
    subst c3
    cases b with
    | true =>
      have E := Lib.hid (show stateR l p s r = (2, 0) by unfold stateR; rw [if_pos h0, if_pos c2])
      clear c1 c2 h0
      go_wp2_with fail
      go_ret2
      exact ⟨ret_r2 E.out, B1⟩
    | false =>
      by_cases hn : 0 < n
      · have E := Lib.hid (show stateR l p s r = (1, 0) by unfold stateR; rw [if_pos h0, if_neg (by rw [c2]; decide), if_pos (by rw [c1]; exact hn)])
        clear c1 c2 h0
        go_wp2_with fail
        go_ret2
        exact ⟨ret_r2 E.out, B1⟩
      · have E := Lib.hid (show stateR l p s r = (0, 0) by unfold stateR; rw [if_pos h0, if_neg (by rw [c2]; decide), if_neg (by rw [c1]; exact hn)])
        clear c1 c2 h0
        go_wp2_with fail
        go_ret2
        exact ⟨ret_r2 E.out, B1⟩
  · rw [if_neg h0] at hc
    injection hc with c1 hc
    injection hc with c2 c3
    have hx : x ≠ 0 := fun e => h0 (c3.trans e)
    have hx1 : (x == 0) = false := beq_eq_false_iff_ne.2 hx
    have E := Lib.hid (show stateR l p s r = (0, x) by unfold stateR; rw [if_neg h0, c3])
    clear c1 c2 c3 h0 hx
    go_wp2_with fail
    go_ret2
    exact ⟨ret_r2 E.out, B1⟩
end Go.Proofs.Ytbnlaopmmgoalaa
