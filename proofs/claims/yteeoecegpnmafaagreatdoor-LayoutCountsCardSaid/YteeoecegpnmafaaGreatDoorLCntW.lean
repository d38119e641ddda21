/-
  Stage 9: the walk of LayoutCounts. Written by tools/gen_cnt9.py.
-/
import Derived.Test.YteeoecegpnmafaaGreatDoorLCnt
import Derived.Test.YteeoecegpnmafaaGreatDoorLSane
import Derived.Test.YteeoecegpnmafaaGreatDoorTSpoil
import Derived.Test.YteeoecegpnmafaaGreatDoorWApp
set_option linter.unusedSimpArgs false
set_option linter.unusedVariables false
namespace Go.Proofs.YteeoecegpnmafaaGreatDoor
open Go.RowKit Go.Lib

theorem ROwn.plainO {w : World} {base : Nat} {v : Value} {l : List El} (h : ROwn ER 45 w base v l) : ∃ A c, v = .slice A l.length c ∧ RRow ER w A l ∧ PlainA A ∧ l.length ≤ c ∧ (A = none → l.length = 0 ∧ c = 0) := by
  obtain ⟨A, c, e, R, h1, h2, h3, h4⟩ := h.full
  refine ⟨A, c, e, R, ?_, h1, h4⟩
  intro ad e2
  rcases Nat.eq_zero_or_pos l.length with g | g
  · rcases h.2 with ⟨rfl, _⟩ | ⟨g', cap, cur, rfl, _⟩
    · injection e with e1; rw [e2] at e1; cases e1
    · injection e with e1; rw [e2] at e1; injection e1 with e1; rw [← e1]
  · obtain ⟨b, e3, _⟩ := h3 g
    rw [e2] at e3; injection e3 with e3; rw [e3]
theorem sz_ofL {l : List El} (h : vlE [] l = 0) : SzE l := fun x hx => by
  obtain ⟨k, hk⟩ := List.mem_iff_getElem?.1 hx
  have := nameS_size (soundE_name (vl_at h hk).1)
  unfold maxLen; omega
set_option maxRecDepth 100000 in
set_option maxHeartbeats 6400000 in
theorem counts_walk (A : Option Addr) (c : Nat) (zs : List Int) (w : World) (D : Dor w) (hr : Row .i64 w w.heap.size A zs) (hm : zs.length ≤ maxLen) (hw : ∀ n ∈ zs, (Lit.int .i64 n).wf = true) :
    Calls Tryz.prog 6 #[.slice A zs.length c] w fun e w' => e = .returned (.bool true) ∧ Below w.heap.size w w' := by
  have K := Lib.hid (mk_row (c := c) (T := 49) hr hm hw)
  have B := Lib.hid ((Below.refl w.heap.size w).alloc (Nat.le_refl _) (.cells #[.slice A zs.length c, .int .i64 0] 49))
  obtain ⟨m, hmm⟩ : ∃ m, m = w.heap.size := ⟨_, rfl⟩
  have HMM := Lib.hid hmm
  have DD := Lib.hid D
  clear hr hw D
  go_enter Tryz.func6, Tryz.ntmps6
  go_wp2_with fail
  refine (new_any A zs.length c w).mono ?_
  rintro e w1 ⟨rfl, hw1⟩
  rw [← hw1] at K B
  rw [← hmm] at K ⊢
  clear hmm hw1 hm
  go_wp2_with fail
  go_loopw [4] (fun iv wr => ∃ (i M : Nat), i ≤ 4 ∧ iv = .int .i64 (i : Int) ∧ M ≤ 400 * i ∧ Hid (IsMk wr m M) ∧ Hid (Below w.heap.size w wr)) (fun iv _ => 4 - (intOf iv).toNat)
  case atStart => exact ⟨0, 0, by omega, rfl, by omega, K, B⟩
  case round =>
    clear K B
    obtain ⟨i, M, hi, rfl, hM, K, B⟩ := hrel
    by_cases hlt : i < 4
    · have hlt' : (i : Int) < 4 := by omega
      go_wp2_with fail
      refine (mlayout_any m M 8 wr K.out (by omega) (by omega)).mono ?_
      rintro e w2 ⟨v, l, rfl, O, HL, K2, V2⟩
      have hl1 := HL.2.1
      have hl2 := HL.2.2.1
      have HV := Lib.hid (HL.1.valid (by omega) (by omega) (by have := HL.2.2.2; omega))
      have HVL := Lib.hid HL.1.vl
      have HO := Lib.hid O
      have HK2 := Lib.hid K2
      have HB2 := Lib.hid (V2.below B.out (by rw [HMM.out]; exact Nat.le_refl _) B.out.size)
      have hmb : m < wr.heap.size := K.out.lt
      clear O HL K2 V2 K B
      generalize wr = wo at *
      by_cases hi1 : i ≤ 1
      · have hi1' : ¬ (1 : Int) < (i : Int) := by omega
        have HCV := Lib.hid (count_valid HV.out)
        have HSZ := Lib.hid (sz_ofL HVL.out)
        obtain ⟨lA, lc, rfl, R, hpl, hlc, _⟩ := HO.out.plainO
        have HVA := Lib.hid (valid_any l lA lc w2 R hpl hlc (DD.out.below HB2.out) HSZ.out)
        clear R hpl
        go_wp2_with fail
        refine HVA.out.mono ?_
        rintro e w4 ⟨he, B4⟩
        rw [HV.out] at he
        subst he
        have HO4 := Lib.hid (HO.out.below B4)
        have HK4 := Lib.hid (HK2.out.stays' B4)
        have HB4 := Lib.hid (HB2.out.trans (B4.mono HB2.out.size))
        have hlen := HCV.out.2.2.2
        obtain ⟨L, hL⟩ : ∃ n, n = l.length := ⟨_, rfl⟩
        have HLL := Lib.hid hL
        rw [← hL] at hlen ⊢
        clear B4 HVA HO HK2 HB2 hL
        go_wp2_with fail
        go_loopw [6, 7, 30] (fun tv sv kv wj => ∃ (k t s : Nat), k ≤ L ∧ kv = .int .i64 (k : Int) ∧ tv = .int .i64 (t : Int) ∧ sv = .int .i64 (s : Int) ∧ t ≤ k ∧ s ≤ k ∧ Hid (t = trks (l.take k)) ∧ Hid (s = sws (l.take k)) ∧ Hid (Below w4.heap.size w4 wj)) (fun _ _ kv _ => L - (intOf kv).toNat)
        case atStart => exact ⟨0, 0, 0, by omega, rfl, rfl, rfl, Nat.le_refl _, Nat.le_refl _, Lib.hid rfl, Lib.hid rfl, Lib.hid (Below.refl _ _)⟩
        case round =>
          obtain ⟨k, t, s, hk, rfl, rfl, rfl, ht, hs, HT, HS, HBJ⟩ := hrel
          by_cases hkL : k < L
          · have hkL' : (k : Int) < (L : Int) := by omega
            obtain ⟨x, hx, _, htk⟩ := drop_ex (l := l) (k := k) (by rw [← HLL.out]; exact hkL)
            obtain ⟨_, _, eS, RS⟩ := (HO4.out.below HBJ.out).slice
            injection eS with eS1 eS2 eS3
            subst eS1
            obtain ⟨ad, rfl, CC⟩ := RS.at_ hx
            obtain ⟨c0, c1, c2, c3, c4, c5, c6, c7⟩ := ESpelt.of CC
            have hp : x.par < (k : Int) ∧ (0 < k → 0 ≤ x.par) := by
              rcases par_lt HCV.out.2.1 hx with ⟨e, e2, _⟩ | ⟨e, _, e2, e3⟩
              · exact ⟨by omega, fun g => by omega⟩
              · exact ⟨e3, fun _ => e2⟩
            have hp1 := hp.1
            have hp2 := hp.2
            have hT1 := trks_snoc (l.take k) x
            have hS1 := sws_snoc (l.take k) x
            rw [← htk, ← HT.out] at hT1
            rw [← htk, ← HS.out] at hS1
            have HT1 := Lib.hid hT1
            have HS1 := Lib.hid hS1
            have HBK := Lib.hid (HBJ.out.alloc HBJ.out.size (.cells #[.int .i64 x.kind, .string x.name, .int .i64 x.par, .int .i64 x.side, .int .i64 x.len, .int .i64 x.gra, .int .i64 x.cur, .int .i64 x.pow] 45))
            obtain ⟨xk, xn, xp, xs, xl, xg, xc, xo⟩ := x
            simp only at c0 c1 c2 c3 c4 c5 c6 c7 hp1 hp2 HT1 HS1 HBK
            have hpn : ¬ (k : Int) ≤ xp := by omega
            clear CC RS hx htk hp hT1 hS1 HT HS HBJ eS2 eS3
            by_cases hk0 : k = 0
            · have hk0' : ¬ (0 : Int) < (k : Int) := by omega
              clear hp2 hk0
              by_cases h4 : xk = 4
              · subst h4
                rw [if_pos rfl] at HT1
                rw [if_neg (by decide), Nat.add_zero] at HS1
                go_wp2_with fail
                go_roundw
                case rel => exact ⟨k + 1, t + 1, s, by omega, by go_num, by go_num, rfl, by omega, by omega, Lib.hid HT1.out.symm, Lib.hid HS1.out.symm, HBK⟩
                case measure => simp [intOf]; omega
              · rw [if_neg h4, Nat.add_zero] at HT1
                have h4b : (xk == 4) = false := beq_eq_false_iff_ne.2 h4
                by_cases h3 : xk = 3
                · subst h3
                  rw [if_pos rfl] at HS1
                  clear h4 h4b
                  go_wp2_with fail
                  go_roundw
                  case rel => exact ⟨k + 1, t, s + 1, by omega, by go_num, rfl, by go_num, by omega, by omega, Lib.hid HT1.out.symm, Lib.hid HS1.out.symm, HBK⟩
                  case measure => simp [intOf]; omega
                · rw [if_neg h3, Nat.add_zero] at HS1
                  have h3b : (xk == 3) = false := beq_eq_false_iff_ne.2 h3
                  clear h4 h3
                  go_wp2_with fail
                  go_roundw
                  case rel => exact ⟨k + 1, t, s, by omega, by go_num, rfl, rfl, by omega, by omega, Lib.hid HT1.out.symm, Lib.hid HS1.out.symm, HBK⟩
                  case measure => simp [intOf]; omega
            · have hk0' : (0 : Int) < (k : Int) := by omega
              have hp3 : ¬ xp < 0 := by have := hp2 (by omega); omega
              clear hp2 hk0
              by_cases h4 : xk = 4
              · subst h4
                rw [if_pos rfl] at HT1
                rw [if_neg (by decide), Nat.add_zero] at HS1
                go_wp2_with fail
                go_roundw
                case rel => exact ⟨k + 1, t + 1, s, by omega, by go_num, by go_num, rfl, by omega, by omega, Lib.hid HT1.out.symm, Lib.hid HS1.out.symm, HBK⟩
                case measure => simp [intOf]; omega
              · rw [if_neg h4, Nat.add_zero] at HT1
                have h4b : (xk == 4) = false := beq_eq_false_iff_ne.2 h4
                by_cases h3 : xk = 3
                · subst h3
                  rw [if_pos rfl] at HS1
                  clear h4 h4b
                  go_wp2_with fail
                  go_roundw
                  case rel => exact ⟨k + 1, t, s + 1, by omega, by go_num, rfl, by go_num, by omega, by omega, Lib.hid HT1.out.symm, Lib.hid HS1.out.symm, HBK⟩
                  case measure => simp [intOf]; omega
                · rw [if_neg h3, Nat.add_zero] at HS1
                  have h3b : (xk == 3) = false := beq_eq_false_iff_ne.2 h3
                  clear h4 h3
                  go_wp2_with fail
                  go_roundw
                  case rel => exact ⟨k + 1, t, s, by omega, by go_num, rfl, rfl, by omega, by omega, Lib.hid HT1.out.symm, Lib.hid HS1.out.symm, HBK⟩
                  case measure => simp [intOf]; omega
          · obtain rfl : k = L := by omega
            have hts : t = s + 1 := by
              have h1 := HT.out
              have h2 := HS.out
              rw [HLL.out, List.take_length] at h1 h2
              rw [h1, h2]; exact HCV.out.1
            have HBE := Lib.hid (HB4.out.trans (HBJ.out.mono HB4.out.size))
            have HKE := Lib.hid (HK4.out.stays' HBJ.out)
            have htb : ((t : Int) != (s : Int) + 1) = false := by rw [hts]; simp
            clear HT HS hts
            go_wp2_with fail
            go_roundw
            case rel => exact ⟨i + 1, M + 19 + 36 * 8, by omega, by go_num, by omega, HKE, HBE⟩
            case measure => simp [intOf]; omega
      · have hi1' : (1 : Int) < (i : Int) := by omega
        obtain ⟨lA0, lc0, rfl, R0, hpl0, hlc0, hAn⟩ := HO.out.plainO
        have HSP := Lib.hid (mspoill_any m (M + 19 + 36 * 8) l lA0 lc0 w2 HK2.out (by omega) R0 hAn (by omega) (sz_ofL HVL.out))
        clear R0 hpl0 hlc0 hAn
        go_wp2_with fail
        refine HSP.out.mono ?_
        rintro e w3 ⟨v, l', rfl, O', hl', HSZ', K', V'⟩
        have HSZ := Lib.hid HSZ'
        have HO3 := Lib.hid O'
        have HK3 := Lib.hid K'
        have HB3 := Lib.hid (V'.below HB2.out (by rw [HMM.out]; exact Nat.le_refl _) HB2.out.size)
        have hmb2 : m < w2.heap.size := HK2.out.lt
        clear HSP HSZ' O' K' V' HV HVL HO HK2 HB2
        generalize l' = l at *
        obtain ⟨lA, lc, rfl, R, hpl, hlc, _⟩ := HO3.out.plainO
        have HVA := Lib.hid (valid_any l lA lc w3 R hpl hlc (DD.out.below HB3.out) HSZ.out)
        have HO := HO3
        have HK2 := HK3
        have HB2 := HB3
        clear R hpl HO3 HK3 HB3
        go_wp2_with fail
        by_cases hv : validE l = 0
        · have HCV := Lib.hid (count_valid hv)
          refine HVA.out.mono ?_
          rintro e w4 ⟨he, B4⟩
          rw [hv] at he
          subst he
          have HO4 := Lib.hid (HO.out.below B4)
          have HK4 := Lib.hid (HK2.out.stays' B4)
          have HB4 := Lib.hid (HB2.out.trans (B4.mono HB2.out.size))
          have hlen := HCV.out.2.2.2
          obtain ⟨L, hL⟩ : ∃ n, n = l.length := ⟨_, rfl⟩
          have HLL := Lib.hid hL
          rw [← hL] at hlen ⊢
          clear B4 HVA HO HK2 HB2 hL
          go_wp2_with fail
          go_loopw [6, 7, 30] (fun tv sv kv wj => ∃ (k t s : Nat), k ≤ L ∧ kv = .int .i64 (k : Int) ∧ tv = .int .i64 (t : Int) ∧ sv = .int .i64 (s : Int) ∧ t ≤ k ∧ s ≤ k ∧ Hid (t = trks (l.take k)) ∧ Hid (s = sws (l.take k)) ∧ Hid (Below w4.heap.size w4 wj)) (fun _ _ kv _ => L - (intOf kv).toNat)
          case atStart => exact ⟨0, 0, 0, by omega, rfl, rfl, rfl, Nat.le_refl _, Nat.le_refl _, Lib.hid rfl, Lib.hid rfl, Lib.hid (Below.refl _ _)⟩
          case round =>
            obtain ⟨k, t, s, hk, rfl, rfl, rfl, ht, hs, HT, HS, HBJ⟩ := hrel
            by_cases hkL : k < L
            · have hkL' : (k : Int) < (L : Int) := by omega
              obtain ⟨x, hx, _, htk⟩ := drop_ex (l := l) (k := k) (by rw [← HLL.out]; exact hkL)
              obtain ⟨_, _, eS, RS⟩ := (HO4.out.below HBJ.out).slice
              injection eS with eS1 eS2 eS3
              subst eS1
              obtain ⟨ad, rfl, CC⟩ := RS.at_ hx
              obtain ⟨c0, c1, c2, c3, c4, c5, c6, c7⟩ := ESpelt.of CC
              have hp : x.par < (k : Int) ∧ (0 < k → 0 ≤ x.par) := by
                rcases par_lt HCV.out.2.1 hx with ⟨e, e2, _⟩ | ⟨e, _, e2, e3⟩
                · exact ⟨by omega, fun g => by omega⟩
                · exact ⟨e3, fun _ => e2⟩
              have hp1 := hp.1
              have hp2 := hp.2
              have hT1 := trks_snoc (l.take k) x
              have hS1 := sws_snoc (l.take k) x
              rw [← htk, ← HT.out] at hT1
              rw [← htk, ← HS.out] at hS1
              have HT1 := Lib.hid hT1
              have HS1 := Lib.hid hS1
              have HBK := Lib.hid (HBJ.out.alloc HBJ.out.size (.cells #[.int .i64 x.kind, .string x.name, .int .i64 x.par, .int .i64 x.side, .int .i64 x.len, .int .i64 x.gra, .int .i64 x.cur, .int .i64 x.pow] 45))
              obtain ⟨xk, xn, xp, xs, xl, xg, xc, xo⟩ := x
              simp only at c0 c1 c2 c3 c4 c5 c6 c7 hp1 hp2 HT1 HS1 HBK
              have hpn : ¬ (k : Int) ≤ xp := by omega
              clear CC RS hx htk hp hT1 hS1 HT HS HBJ eS2 eS3
              by_cases hk0 : k = 0
              · have hk0' : ¬ (0 : Int) < (k : Int) := by omega
                clear hp2 hk0
                by_cases h4 : xk = 4
                · subst h4
                  rw [if_pos rfl] at HT1
                  rw [if_neg (by decide), Nat.add_zero] at HS1
                  go_wp2_with fail
                  go_roundw
                  case rel => exact ⟨k + 1, t + 1, s, by omega, by go_num, by go_num, rfl, by omega, by omega, Lib.hid HT1.out.symm, Lib.hid HS1.out.symm, HBK⟩
                  case measure => simp [intOf]; omega
                · rw [if_neg h4, Nat.add_zero] at HT1
                  have h4b : (xk == 4) = false := beq_eq_false_iff_ne.2 h4
                  by_cases h3 : xk = 3
                  · subst h3
                    rw [if_pos rfl] at HS1
                    clear h4 h4b
                    go_wp2_with fail
                    go_roundw
                    case rel => exact ⟨k + 1, t, s + 1, by omega, by go_num, rfl, by go_num, by omega, by omega, Lib.hid HT1.out.symm, Lib.hid HS1.out.symm, HBK⟩
                    case measure => simp [intOf]; omega
                  · rw [if_neg h3, Nat.add_zero] at HS1
                    have h3b : (xk == 3) = false := beq_eq_false_iff_ne.2 h3
                    clear h4 h3
                    go_wp2_with fail
                    go_roundw
                    case rel => exact ⟨k + 1, t, s, by omega, by go_num, rfl, rfl, by omega, by omega, Lib.hid HT1.out.symm, Lib.hid HS1.out.symm, HBK⟩
                    case measure => simp [intOf]; omega
              · have hk0' : (0 : Int) < (k : Int) := by omega
                have hp3 : ¬ xp < 0 := by have := hp2 (by omega); omega
                clear hp2 hk0
                by_cases h4 : xk = 4
                · subst h4
                  rw [if_pos rfl] at HT1
                  rw [if_neg (by decide), Nat.add_zero] at HS1
                  go_wp2_with fail
                  go_roundw
                  case rel => exact ⟨k + 1, t + 1, s, by omega, by go_num, by go_num, rfl, by omega, by omega, Lib.hid HT1.out.symm, Lib.hid HS1.out.symm, HBK⟩
                  case measure => simp [intOf]; omega
                · rw [if_neg h4, Nat.add_zero] at HT1
                  have h4b : (xk == 4) = false := beq_eq_false_iff_ne.2 h4
                  by_cases h3 : xk = 3
                  · subst h3
                    rw [if_pos rfl] at HS1
                    clear h4 h4b
                    go_wp2_with fail
                    go_roundw
                    case rel => exact ⟨k + 1, t, s + 1, by omega, by go_num, rfl, by go_num, by omega, by omega, Lib.hid HT1.out.symm, Lib.hid HS1.out.symm, HBK⟩
                    case measure => simp [intOf]; omega
                  · rw [if_neg h3, Nat.add_zero] at HS1
                    have h3b : (xk == 3) = false := beq_eq_false_iff_ne.2 h3
                    clear h4 h3
                    go_wp2_with fail
                    go_roundw
                    case rel => exact ⟨k + 1, t, s, by omega, by go_num, rfl, rfl, by omega, by omega, Lib.hid HT1.out.symm, Lib.hid HS1.out.symm, HBK⟩
                    case measure => simp [intOf]; omega
            · obtain rfl : k = L := by omega
              have hts : t = s + 1 := by
                have h1 := HT.out
                have h2 := HS.out
                rw [HLL.out, List.take_length] at h1 h2
                rw [h1, h2]; exact HCV.out.1
              have HBE := Lib.hid (HB4.out.trans (HBJ.out.mono HB4.out.size))
              have HKE := Lib.hid (HK4.out.stays' HBJ.out)
              have htb : ((t : Int) != (s : Int) + 1) = false := by rw [hts]; simp
              clear HT HS hts
              go_wp2_with fail
              go_roundw
              case rel => exact ⟨i + 1, M + 19 + 36 * 8 + 3, by omega, by go_num, by omega, HKE, HBE⟩
              case measure => simp [intOf]; omega
        · refine HVA.out.mono ?_
          rintro e w4 ⟨rfl, B4⟩
          have HKE := Lib.hid (HK2.out.stays' B4)
          have HBE := Lib.hid (HB2.out.trans (B4.mono HB2.out.size))
          have hvb : (validE l != 0) = true := bne_iff_ne.2 hv
          have hi2 : ¬ (i : Int) < 2 := by omega
          clear HVA B4 HO HK2 HB2 hv
          go_wp2_with fail
          go_roundw
          case rel => exact ⟨i + 1, M + 19 + 36 * 8 + 3, by omega, by go_num, by omega, HKE, HBE⟩
          case measure => simp [intOf]; omega
    · obtain rfl : i = 4 := by omega
      go_wp2_with fail
      refine (sane_any _ (DD.out.below B.out)).mono ?_
      rintro e w8 ⟨rfl, B8⟩
      have Y9 := Lib.hid (B.out.trans (B8.mono B.out.size))
      clear B8
      go_wp2_with fail
      go_ret
      exact ⟨rfl, Y9.out⟩
end Go.Proofs.YteeoecegpnmafaaGreatDoor
