/-
  Stage 5: the reference's Balance and Through.
-/
import Derived.Test.YtbnlaopmmgoalaaSRef2
import Derived.Test.YtbnlaopmmgoalaaSThr
set_option linter.unusedSimpArgs false
set_option linter.unusedVariables false
namespace Go.Proofs.Ytbnlaopmmgoalaa
open Go.RowKit

theorem sum_take_bd {f : Pul → Int} {p : List Pul} (h : ∀ x ∈ p, -1 ≤ f x ∧ f x ≤ 1) (k : Nat) (hk : k ≤ p.length) : -(k : Int) ≤ sum f (p.take k) ∧ sum f (p.take k) ≤ k := take_bd h k
theorem sacc_bd {l p : List Pul} (hb : Bor l) (hx : ∀ x ∈ p, okP x) (n : Nat) : -((n * p.length : Nat) : Int) ≤ sacc l p n ∧ sacc l p n ≤ ((n * p.length : Nat) : Int) := by
  induction n with
  | zero => show -((0 * p.length : Nat) : Int) ≤ 0 ∧ 0 ≤ ((0 * p.length : Nat) : Int); omega
  | succ n ih =>
    have := sum_bd (f := eff l n) (p := p) fun x hxx => eff_bd hb (hx x hxx) n
    show -(((n + 1) * p.length : Nat) : Int) ≤ sacc l p n + sum (eff l n) p ∧ sacc l p n + sum (eff l n) p ≤ (((n + 1) * p.length : Nat) : Int)
    rw [Nat.succ_mul]
    omega

set_option maxHeartbeats 800000 in
theorem rbal_any (l p : List Pul) (A A2 : Option Addr) (c c2 : Nat) (w : World) (h : PRow w A l) (h2 : PRow w A2 p) :
    Calls Try.prog 30 #[.slice A l.length c, .slice A2 p.length c2] w fun e w' => e = .returned (R2 (balR l p)) ∧ Below w.heap.size w w' := by
  have hl : l.length ≤ 9223372036854775807 := h.len
  have hp : p.length ≤ 9223372036854775807 := h2.len
  have H := Lib.hid h
  have H2 := Lib.hid h2
  clear h h2
  go_enter Try.func30, Try.ntmps30
  go_wp2_with fail
  refine (rchk_any l p A A2 c c2 0 w H.out H2.out).mono ?_
  rintro e w1 ⟨rfl, B1⟩
  have HB1 := Lib.hid B1
  obtain ⟨eb, heb⟩ : ∃ eb, eb = chkR l p 0 := ⟨_, rfl⟩
  have HEB := Lib.hid heb
  rw [← heb]
  clear B1 heb
  by_cases hb0 : eb = 0
  · subst hb0
    obtain ⟨hbor, _, hrun, hp4, _⟩ := chk_zero HEB.out.symm
    have HR := Lib.hid (run_mem hrun)
    have HBO := Lib.hid hbor
    have HSA := Lib.hid (sacc_bd HBO.out HR.out)
    obtain ⟨L, hL⟩ : ∃ n, n = p.length := ⟨_, rfl⟩
    have HL := Lib.hid hL
    rw [← hL] at hp hp4 HSA ⊢
    have HP4 := Lib.hid hp4
    clear hbor hrun hL
    go_wp2_with fail
    go_loopw [8, 7] (fun i nv wr => ∃ m : Nat, m ≤ 32 ∧ i = .int .i64 m ∧ ∃ n : Int, nv = .int .i64 n ∧ Hid (n = sacc l p m) ∧ Hid (Below w.heap.size w wr)) (fun i _ _ => 32 - (intOf i).toNat)
    case atStart => exact ⟨0, by omega, rfl, 0, rfl, Lib.hid rfl, HB1⟩
    case round =>
      obtain ⟨m, hm, rfl, n, rfl, HN, B⟩ := hrel
      by_cases hlm : m < 32
      · have hnb : -(131072 : Int) ≤ n ∧ n ≤ 131072 := by
          rw [HN.out]
          have h1 := HSA.out m
          have h2 : m * L ≤ 32 * 4096 := Nat.mul_le_mul (by omega) HP4.out
          omega
        have HLM := Lib.hid hlm
        have hdm : decide ((m : Int) < 32) = true := decide_eq_true (by omega)
        obtain ⟨wo, hwo⟩ : ∃ x, x = wr := ⟨_, rfl⟩
        subst hwo
        have HME := Lib.hid (show ∀ k : Nat, -(k : Int) ≤ sum (eff l m) (p.take k) ∧ sum (eff l m) (p.take k) ≤ k from fun k => take_bd (fun x hx => eff_bd HBO.out (HR.out x hx) m) k)
        go_wp2_with fail
        go_loopw [9, 7] (fun i nv wx => ∃ k : Nat, k ≤ L ∧ i = .int .i64 k ∧ ∃ n' : Int, nv = .int .i64 n' ∧ Hid (n' = n + sum (eff l m) (p.take k)) ∧ Hid (Below w.heap.size w wx)) (fun i _ _ => L - (intOf i).toNat)
        case atStart => exact ⟨0, by omega, rfl, n, rfl, Lib.hid (Int.add_zero n).symm, B⟩
        case round =>
          clear B
          obtain ⟨k, hk, rfl, n', rfl, HN', B⟩ := hrel
          by_cases hlt : k < L
          · obtain ⟨ad, rfl, C⟩ := (H2.out.below B.out).at_ k (by rw [← HL.out]; exact hlt)
            obtain ⟨⟨d, t, z⟩, hpk⟩ : ∃ x, x = p.getD k (0, 0, 0) := ⟨_, rfl⟩
            have ht := take_at hpk (by rw [← HL.out]; exact hlt)
            have HX := Lib.hid (show okP (d, t, z) by rw [hpk]; exact HR.out _ (getD_memP (by rw [← HL.out]; exact hlt)))
            rw [← hpk] at C
            obtain ⟨c0, c1, c2⟩ := C.spelt
            simp only at c0 c1 c2
            have hnb' : -(200000 : Int) ≤ n' ∧ n' ≤ 200000 := by
              have := HME.out k
              rw [HN'.out]; omega
            have HS := Lib.hid (sum_step (eff l m) (p.take k) (d, t, z))
            have HT1 := Lib.hid ht
            clear C hpk ht
            go_wp2_with fail
            refine (effect_any l A c d t z m _ (H.out.below B.out) HBO.out HX.out).mono ?_
            rintro e w2 ⟨rfl, B2⟩
            have HB2 := Lib.hid (B.out.trans (B2.mono B.out.size))
            have hb := eff_bd HBO.out HX.out m
            obtain ⟨x, hx⟩ : ∃ x, x = eff l m (d, t, z) := ⟨_, rfl⟩
            have HEX := Lib.hid hx
            rw [← hx] at hb ⊢
            clear hx B2 c0 c1 c2
            go_wp2_with fail
            go_roundw
            case rel => exact ⟨k + 1, by omega, by go_num, n' + x, rfl, Lib.hid (by rw [HT1.out, HS.out, ← HEX.out, HN'.out, Int.add_assoc]), HB2⟩
            case measure => simp [intOf]; omega
          · obtain rfl : k = L := by omega
            have hn := HN'.out
            rw [HL.out, List.take_length] at hn
            have HN2 := Lib.hid hn
            clear hn hlt hk
            go_wp2_with fail
            go_roundw
            case rel => exact ⟨m + 1, by omega, by go_num, n', rfl, Lib.hid (by rw [HN2.out, HN.out]; rfl), B⟩
            case measure => have := HLM.out; simp [intOf]; omega
      · obtain rfl : m = 32 := by omega
        have E := Lib.hid (show balR l p = (n, 0) by unfold balR; rw [if_pos HEB.out.symm, HN.out, bal_sacc HBO.out])
        clear hlm hm
        go_wp2_with fail
        go_ret2
        exact ⟨ret_r2 E.out, B.out⟩
  · have E := Lib.hid (show balR l p = (0, eb) by unfold balR; rw [if_neg (fun e => hb0 (HEB.out.trans e)), HEB.out])
    have hb1 : (eb == 0) = false := beq_eq_false_iff_ne.2 hb0
    clear hb0
    go_wp2_with fail
    go_ret2
    exact ⟨ret_r2 E.out, HB1.out⟩

set_option maxHeartbeats 1600000 in
theorem rthr_any (l : List Pul) (A : Option Addr) (c : Nat) (w : World) (h : PRow w A l) :
    Calls Try.prog 29 #[.slice A l.length c] w (ThrPost l w) := by
  obtain ⟨i0, hi, hz0, hz1, hz2⟩ := info_parts infoInt
  have hl : l.length ≤ 9223372036854775807 := h.len
  have H := Lib.hid h
  clear h
  go_enter Try.func29, Try.ntmps29
  go_wp2_with fail
  refine (rbvalid_any l A c w H.out).mono ?_
  rintro e w1 ⟨rfl, B1⟩
  have HB1 := Lib.hid B1
  obtain ⟨eb, heb⟩ : ∃ eb, eb = bordR l := ⟨_, rfl⟩
  have HEB := Lib.hid heb
  rw [← heb]
  clear B1 heb
  by_cases hb0 : eb = 0
  · subst hb0
    obtain ⟨hbor, h64⟩ := bord_zero HEB.out.symm
    have HO := Lib.hid (bor_ok hbor)
    have H64 := Lib.hid h64
    obtain ⟨L, hL⟩ : ∃ n, n = l.length := ⟨_, rfl⟩
    have HL := Lib.hid hL
    rw [← hL] at hl h64 ⊢
    clear hbor hL
    go_wp2_with fail
    go_loopw [6, 5] (fun i ov wr => ∃ k : Nat, k ≤ 32 ∧ i = .int .i64 k ∧ Hid (Own .i64 3 wr w.heap.size ov (thr l k)) ∧ Hid (Below w.heap.size w wr)) (fun i _ _ => 32 - (intOf i).toNat)
    case atStart => exact ⟨0, by omega, rfl, Lib.hid Own.nil, HB1⟩
    case round =>
      obtain ⟨k, hk, rfl, O, B⟩ := hrel
      by_cases hlt : k < 32
      · have hdm : decide ((k : Int) < 32) = true := decide_eq_true (by omega)
        have HNB := Lib.hid (nb_bd l k)
        have HSB := Lib.hid (sb_bd l HO.out k)
        have HLT := Lib.hid hlt
        obtain ⟨wo, hwo⟩ : ∃ x, x = wr := ⟨_, rfl⟩
        subst hwo
        go_wp2_with fail
        go_loopw [9, 7, 8] (fun i nv sv wx => ∃ j : Nat, j ≤ L ∧ i = .int .i64 j ∧ ∃ n s : Int, nv = .int .i64 n ∧ sv = .int .i64 s ∧ Hid (n = sum (nb k) (l.take j)) ∧ Hid (s = sum (sb k) (l.take j)) ∧ wx = wo) (fun i _ _ _ => L - (intOf i).toNat)
        case atStart => exact ⟨0, by omega, rfl, 0, 0, rfl, rfl, Lib.hid rfl, Lib.hid rfl, rfl⟩
        case round =>
          obtain ⟨j, hj, rfl, n, s, rfl, rfl, HN, HS, rfl⟩ := hrel
          by_cases hjl : j < L
          · obtain ⟨ad, rfl, C⟩ := (H.out.below B.out).at_ j (by rw [← HL.out]; exact hjl)
            obtain ⟨⟨s', d', z'⟩, hp⟩ : ∃ x, x = l.getD j (0, 0, 0) := ⟨_, rfl⟩
            have ht := take_at hp (by rw [← HL.out]; exact hjl)
            have hz : z' = 1 ∨ z' = -1 := by
              have := (HO.out _ (getD_memP (k := j) (by rw [← HL.out]; exact hjl))).2.2
              rw [← hp] at this; exact this
            have hz2 : -1 ≤ z' ∧ z' ≤ 1 := by omega
            rw [← hp] at C
            obtain ⟨c0, c1, c2⟩ := C.spelt
            simp only at c0 c1 c2
            have hnb : -(j : Int) ≤ n ∧ n ≤ j := by rw [HN.out]; exact HNB.out j
            have hsb : -(j : Int) ≤ s ∧ s ≤ j := by rw [HS.out]; exact HSB.out j
            have HS1 := Lib.hid (sum_step (nb k) (l.take j) (s', d', z'))
            have HS2 := Lib.hid (sum_step (sb k) (l.take j) (s', d', z'))
            have HT1 := Lib.hid ht
            clear C hp ht hz
            by_cases hd : d' = (k : Int)
            · have E1 := Lib.hid (show nb k (s', d', z') = 1 by unfold nb; exact if_pos hd)
              have E2 := Lib.hid (show sb k (s', d', z') = z' by unfold sb; exact if_pos hd)
              subst hd
              go_wp2_with fail
              go_roundw
              case rel => exact ⟨j + 1, by omega, by go_num, n + 1, s + z', rfl, rfl, Lib.hid (by rw [HT1.out, HS1.out, E1.out, HN.out]), Lib.hid (by rw [HT1.out, HS2.out, E2.out, HS.out]), trivial⟩
              case measure => simp [intOf]; omega
            · have hd1 : (d' == (k : Int)) = false := beq_eq_false_iff_ne.2 hd
              have E1 := Lib.hid (show nb k (s', d', z') = 0 by unfold nb; exact if_neg hd)
              have E2 := Lib.hid (show sb k (s', d', z') = 0 by unfold sb; exact if_neg hd)
              clear hd
              go_wp2_with fail
              go_roundw
              case rel => exact ⟨j + 1, by omega, by go_num, n, s, rfl, rfl, Lib.hid (by rw [HT1.out, HS1.out, E1.out, HN.out, Int.add_zero]), Lib.hid (by rw [HT1.out, HS2.out, E2.out, HS.out, Int.add_zero]), trivial⟩
              case measure => simp [intOf]; omega
          · obtain rfl : j = L := by omega
            have hn := HN.out
            have hs := HS.out
            rw [HL.out, List.take_length] at hn hs
            have HU := Lib.hid hn
            have HV := Lib.hid hs
            clear hn hs hjl hj HN HS
            by_cases h2 : n = 2
            · by_cases h0 : s = 0
              · have E := Lib.hid (thr_yes (l := l) (k := k) (HU.out.symm.trans h2) (HV.out.symm.trans h0))
                have HLN := Lib.hid (thr_len l k)
                subst h2; subst h0
                go_wp2_with (first | (at_builtin; refine wpList_append_lies _ rfl (.tmp 47) (.tmp 49) 27 rfl w.heap.size 3 i0 (.int .i64 0) 1 8 Try.underlying27 hi hz0 hz1 hz2 rfl (by decide) _ (thr l k).length ((thr l k).map (Value.int .i64)) rfl (O.out.alloc _) ⟨wr.heap.size, 0, none⟩ 1 1 ([(k : Int)].map (Value.int .i64)) rfl rfl (news_int (k := .i64) (W := wr) (ys := [(k : Int)])) (one_cells (ys := [(k : Int)])) (by decide) (by unfold maxLen; have := HLN.out; omega) (by have := HLN.out; omega) (by have := B.out.size; simp only [World.size_alloc]; omega) _ rfl ?_; intro g cap w6 hown hgr hgb hlt2))
                have AP := Lib.hid (Own.app (zs := thr l k) (ys := [(k : Int)]) hown rfl rfl)
                have B2 := Lib.hid ((B.out.alloc B.out.size (.cells #[.int .i64 (k : Int)] 3)).grown hgr (by have := B.out.size; simp; omega) (fun j hj => (own_block O.out hj).1))
                clear hown hgr hgb hlt2
                go_roundw
                case rel => exact ⟨k + 1, by omega, by go_num, Lib.hid (by rw [E.out]; exact AP.out), B2⟩
                case measure => have := HLT.out; simp [intOf]; omega
              · have h0' : (s == 0) = false := beq_eq_false_iff_ne.2 h0
                have E := Lib.hid (thr_no (l := l) (k := k) (fun h => h0 (HV.out.trans h.2)))
                subst h2
                clear h0
                go_wp2_with fail
                go_roundw
                case rel => exact ⟨k + 1, by omega, by go_num, Lib.hid (by rw [E.out]; exact O.out), B⟩
                case measure => have := HLT.out; simp [intOf]; omega
            · have h2' : (n == 2) = false := beq_eq_false_iff_ne.2 h2
              have E := Lib.hid (thr_no (l := l) (k := k) (fun h => h2 (HU.out.trans h.1)))
              clear h2
              go_wp2_with fail
              go_roundw
              case rel => exact ⟨k + 1, by omega, by go_num, Lib.hid (by rw [E.out]; exact O.out), B⟩
              case measure => have := HLT.out; simp [intOf]; omega
      · obtain rfl : k = 32 := by omega
        have HO2 := Lib.hid O.out
        clear O hlt hk
        go_wp2_with fail
        go_ret2
        exact ThrPost.good HEB.out.symm rfl HO2.out B.out
  · have hb1 : (eb == 0) = false := beq_eq_false_iff_ne.2 hb0
    have HB0 := Lib.hid hb0
    clear hb0
    go_wp2_with fail
    go_ret2
    exact ThrPost.bad HEB.out.symm HB0.out rfl HB1.out
end Go.Proofs.Ytbnlaopmmgoalaa
