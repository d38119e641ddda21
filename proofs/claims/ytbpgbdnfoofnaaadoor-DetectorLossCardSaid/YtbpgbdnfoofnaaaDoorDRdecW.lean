/-
  Stage 4: the walk of the reference's Decode.
-/
import Derived.Test.YtbpgbdnfoofnaaaDoorDDecW
import Derived.Test.YtbpgbdnfoofnaaaDoorDRgrp
set_option linter.unusedSimpArgs false
set_option linter.unusedVariables false
namespace Go.Proofs.YtbpgbdnfoofnaaaDoor
open Go.RowKit

theorem rgrp_at {vs : List Int} {l : List Pul} {n : Nat} (h : rgrR vs = (l, n)) (A : Option Addr) (L c : Nat) (hL : L = vs.length) (w : World) (R : RowB .i64 w A vs) (hne : 0 < vs.length) (hv : ∀ v ∈ vs, -1 ≤ v ∧ v ≤ 2047) :
    Calls Tryd.prog 44 #[.slice A L c] w fun e w' => ∃ v, e = .returned (.tuple #[v, .int .i64 (n : Int)]) ∧ POwn w' w.heap.size v l ∧ Below w.heap.size w w' := by
  subst hL
  refine (rgrp_any vs A c w R hne hv).mono ?_
  rintro e w' ⟨v, e1, O, B⟩
  rw [h] at e1 O
  exact ⟨v, e1, O, B⟩
set_option maxHeartbeats 1600000 in
theorem rdec_any (xs : List Int) (A0 : Option Addr) (c0 : Nat) (w : World) (R0 : RowB .u8 w A0 xs) (hb : ∀ z ∈ xs, 0 ≤ z ∧ z ≤ 255) :
    Calls Tryd.prog 36 #[.slice A0 xs.length c0] w (DecPost xs w) := by
  obtain ⟨i0, hi, hz0, hz1, hz2⟩ := info_parts infoPul
  obtain ⟨j0, hj, hy0, hy1, hy2⟩ := info_parts infoIvl
  obtain ⟨⟨vs, lost, er⟩, hu⟩ : ∃ t, unpackR xs = t := ⟨_, rfl⟩
  have hun := runpack_any xs A0 c0 w R0.1 R0.2 hb
  have hbd := unpackR_bd xs
  rw [hu] at hbd
  have HU := Lib.hid hu
  have HUN := Lib.hid hun
  obtain ⟨X, hX⟩ : ∃ n, n = xs.length := ⟨_, rfl⟩
  rw [← hX] at HUN ⊢
  clear R0 hb hun hX hu
  go_enter Tryd.func36, Tryd.ntmps36
  go_wp2_with fail
  refine HUN.out.mono ?_
  rintro e w1 ⟨v1, v2, rfl, O1, O2, B1⟩
  rw [HU.out] at O1 ⊢
  have HB1 := Lib.hid B1
  clear O2 B1 HUN
  by_cases he : er = 0
  · subst he
    obtain ⟨A, c, rfl, R1, hc, hl, hform⟩ := Own.slice O1
    have hcm : c ≤ maxLen := by
      rcases O1.2 with ⟨e, _⟩ | ⟨g, cap, cur, e, _, _, _, h5, _⟩
      · injection e with e1 e2 e3; rw [e3]; decide
      · injection e with e1 e2 e3; rw [e3]; exact h5
    have HR1 := Lib.hid (show RowB .i64 w1 A vs from ⟨R1, hl⟩)
    have HV := Lib.hid hbd.1
    have hL6 : vs.length ≤ 65536 := hbd.2
    have hcm' : c ≤ 9223372036854775807 := hcm
    obtain ⟨L, hL⟩ : ∃ n, n = vs.length := ⟨_, rfl⟩
    have HL := Lib.hid hL
    have HF := Lib.hid hform
    rw [← hL] at hc hL6 ⊢
    clear R1 hl hform hbd O1 hL hcm
    go_wp2_with fail
    go_loopw [8, 9, 10] (fun pv gv iv wr => ∃ (J : Nat) (ps : List Pul) (gs : List Ivl), J ≤ L ∧ iv = .int .i64 (J : Int) ∧ ps.length ≤ J ∧ gs.length ≤ J ∧ Hid (POwn wr w1.heap.size pv ps) ∧ Hid (IOwn wr w1.heap.size gv gs) ∧ Hid (Below w1.heap.size w1 wr) ∧
      Hid (decV vs 0 = (ps ++ (decV (vs.drop J) J).1, gs ++ (decV (vs.drop J) J).2))) (fun _ _ iv _ => L - (intOf iv).toNat)
    case atStart => exact ⟨0, [], [], by omega, rfl, by decide, by decide, Lib.hid POwn.nil, Lib.hid IOwn.nil, Lib.hid (Below.refl _ _), Lib.hid rfl⟩
    case round =>
      obtain ⟨J, ps, gs, hJ, rfl, hps, hgs, OP, OG, B, V⟩ := hrel
      have HPL := Lib.hid hps
      have HGL := Lib.hid hgs
      by_cases hlt : J < L
      · obtain ⟨g1, rfl, _, _⟩ := HF.out (by rw [← HL.out]; omega)
        have hdl' : (vs.drop J).length = L - J := by rw [List.length_drop, ← HL.out]
        have hdl : (vs.drop J).length = L - J := by rw [List.length_drop, ← HL.out]
        have rd : RowB .i64 wr (some ⟨g1, J, none⟩) (vs.drop J) := ⟨by have := ((HR1.out.1.under B.out).more B.out.size).dropR J; rw [Option.map_some, add_own] at this; exact this, by have := HR1.out.2; rw [List.length_drop]; omega⟩
        have hv' : ∀ v ∈ vs.drop J, -1 ≤ v ∧ v ≤ 2047 := fun v hv => HV.out v (List.mem_of_mem_drop hv)
        obtain ⟨⟨l, n⟩, hg⟩ : ∃ t, rgrR (vs.drop J) = t := ⟨_, rfl⟩
        have cg := rgrp_at hg (some ⟨g1, J, none⟩) (L - J) (c - J) hdl.symm wr rd (by omega) hv'
        have CG := Lib.hid cg
        have HG := Lib.hid hg
        clear cg rd hv' hdl hg hps hgs
        go_wp2_with fail
        refine CG.out.mono ?_
        rintro e w2 ⟨gv, rfl, OGR, B2⟩
        have HB2 := Lib.hid (B.out.trans (B2.mono B.out.size))
        have OP2 := Lib.hid (OP.out.below B2)
        have OG2 := Lib.hid (OG.out.below B2)
        have HGR := Lib.hid OGR
        clear CG B2 OGR OP OG
        have hgp : (0 < n ∧ grp (vs.drop J) = some (l, n)) ∨ (n = 0 ∧ grp (vs.drop J) = none) := by
          have h := HG.out
          unfold rgrR at h
          cases hq : grp (vs.drop J) with
          | none => rw [hq] at h; injection h with _ h2; exact Or.inr ⟨h2.symm, rfl⟩
          | some q =>
            obtain ⟨q1, q2⟩ := q
            rw [hq] at h
            injection h with h1 h2
            subst h1; subst h2
            exact Or.inl ⟨by have := grp_len hq; omega, rfl⟩
        rcases hgp with ⟨hn0, hq⟩ | ⟨rfl, hq⟩
        · obtain ⟨k1, k2, k3, k4⟩ := grp_bd hq
          have e1 := decV_some hq J
          rw [List.drop_drop] at e1
          have hV := V.out
          rw [e1] at hV
          have hV2 : decV vs 0 = ((ps ++ l) ++ (decV (vs.drop (J + n)) (J + n)).1, gs ++ (decV (vs.drop (J + n)) (J + n)).2) := by
            rw [hV]
            simp only [List.append_assoc]
          have k5 : J + n ≤ L := by rw [List.length_drop] at k4; have := HL.out; omega
          have HV2 := Lib.hid hV2
          obtain ⟨g2, c2, rfl, RG, _, hfm⟩ := HGR.out.slice
          obtain ⟨g3, rfl, hg3, hg4⟩ := hfm (by omega)
          have RGN := Lib.hid RG.row.news
          have hw : IntKind.i64.wrap ((J : Int) + (n : Int)) = (J : Int) + (n : Int) := IntWalk.i64_in _ (by omega)
          have K3 := Lib.hid k3
          have hJn : 0 < n := by omega
          clear hq e1 hV hV2 V RG hfm k4 k3
          go_wp2_with (first | (at_builtin; refine wpList_append_lies _ rfl (.tmp 36) (.tmp 37) 25 rfl w1.heap.size 28 i0 (.agg #[.int .i64 0, .int .i64 0, .int .i64 0]) 3 24 Tryd.underlying25 hi hz0 hz1 hz2 rfl (by decide) _ ps.length ((flatP ps).map (Value.int .i64)) rfl OP2.out ⟨g3, 0, none⟩ l.length c2 ((flatP l).map (Value.int .i64)) rfl (by rw [List.length_map, flatP_len]) RGN.out one_cells (by omega) (by unfold maxLen; have := HPL.out; omega) (by have := HPL.out; omega) HB2.out.size _ rfl ?_; intro g cap w3 hown hgr hgb hlt2))
          have AP := POwn.app (l := ps) (m := l) hown rfl rfl
          have BN := Lib.hid (HB2.out.grown hgr HB2.out.size (fun j hj => (OP2.out.block hj).1))
          have OGN := Lib.hid (OG2.out.kept hgr (types_ne OG2.out OP2.out (by decide)))
          have HAP := Lib.hid AP
          clear hown hgr hgb hlt2 AP
          go_roundw
          case rel => exact ⟨J + n, ps ++ l, gs, k5, by go_num, by have := HPL.out; have := K3.out; rw [List.length_append]; omega, by have := HGL.out; omega, HAP, OGN, BN, HV2⟩
          case measure => simp [intOf]; omega
        · have hne : vs.drop J ≠ [] := fun e => by rw [e] at hdl'; simp at hdl'; omega
          have e1 := decV_none hne hq J
          have et : (vs.drop J).tail = vs.drop (J + 1) := by rw [List.tail_drop]
          rw [et, List.drop_drop] at e1
          obtain ⟨m, hm⟩ : ∃ m, m = J + 1 + pass (vs.drop (J + 1)) := ⟨_, rfl⟩
          have pl := pass_le (vs.drop (J + 1))
          rw [List.length_drop, ← HL.out] at pl
          have hmL : m ≤ L := by omega
          have hmJ : J + 1 ≤ m := by omega
          rw [show J + (1 + pass (vs.drop (J + 1))) = m by omega, show (J : Int) + (pass (vs.drop (J + 1)) : Int) = (m : Int) - 1 by omega] at e1
          have hV := V.out
          rw [e1] at hV
          have hV2 : decV vs 0 = (ps ++ (decV (vs.drop m) m).1, (gs ++ [((J : Int), (m : Int) - 1)]) ++ (decV (vs.drop m) m).2) := by
            rw [hV]
            simp only [List.append_assoc, List.cons_append, List.nil_append]
          have HV2 := Lib.hid hV2
          have hw1 : IntKind.i64.wrap ((J : Int) + 1) = (J : Int) + 1 := IntWalk.i64_in _ (by omega)
          have hw2 : IntKind.i64.wrap ((m : Int) - 1) = (m : Int) - 1 := IntWalk.i64_in _ (by omega)
          have HM := Lib.hid hm
          have hrow := HR1.out.below HB2.out
          have HRW := Lib.hid hrow
          have HL2 := Lib.hid HL.out
          clear hne e1 et hm pl hV hV2 V hq hdl' hrow
          go_upto_region 13 with fail
          obtain ⟨wo, ewo⟩ : ∃ x, x = w2 := ⟨_, rfl⟩
          subst ewo
          go_loopw [13] (fun iv wr => ∃ (k : Nat), J + 1 ≤ k ∧ k ≤ L ∧ iv = .int .i64 (k : Int) ∧ Hid (m = k + pass (vs.drop k)) ∧ wo = wr) (fun iv _ => L - (intOf iv).toNat)
          case atStart => exact ⟨J + 1, by omega, by omega, by go_num, HM, rfl⟩
          case round =>
            clear HM
            obtain ⟨k, hk1, hk, rfl, V2, rfl⟩ := hrel
            by_cases hkl : k < L
            · obtain ⟨ad, e', _, hc⟩ := HRW.out.1 k (by rw [← HL2.out]; exact hkl)
              have hd := dropZ (l := vs) (k := k) (by rw [← HL2.out]; exact hkl)
              obtain ⟨v, hv⟩ : ∃ v, v = vs.getD k 0 := ⟨_, rfl⟩
              rw [← hv] at hc hd
              have ea : (⟨g1, 0, none⟩ : Addr) = ad := by injection e'
              subst ea
              rw [add_own] at hc
              have e := V2.out
              rw [hd] at e
              have E := Lib.hid e
              clear hv hd e V2 e'
              cases hs : mark v with
              | true =>
                have hmk : m = k := by rw [E.out, pass_yes hs, Nat.add_zero]
                have HS := Lib.hid hs
                subst hmk
                clear hs E
                go_wp2_with fail
                refine (rmark_any _ _).mono ?_
                rintro e w' ⟨rfl, rfl⟩
                rw [HS.out]
                have hps' := HPL.out
                obtain ⟨A8, c8, rfl, _, _, _⟩ := OP2.out.slice
                go_wp2_with (first | (at_builtin; refine wpList_append_lies _ rfl (.tmp 58) (.tmp 63) 35 rfl w1.heap.size 52 j0 (.agg #[.int .i64 0, .int .i64 0]) 2 16 Tryd.underlying35 hj hy0 hy1 hy2 rfl (by decide) _ gs.length ((flatI gs).map (Value.int .i64)) rfl (OG2.out.alloc _) ⟨wo.heap.size, 0, none⟩ 1 1 ((flatI [((J : Int), (m : Int) - 1)]).map (Value.int .i64)) rfl rfl (news_int (W := wo) (ys := flatI [((J : Int), (m : Int) - 1)])) (one_cells (ys := flatI [((J : Int), (m : Int) - 1)])) (by decide) (by unfold maxLen; have := HGL.out; omega) (by have := HGL.out; omega) (by have := HB2.out.size; simp only [World.size_alloc]; omega) _ rfl ?_; intro g cap w4 hown hgr hgb hlt2))
                have AP := IOwn.app (l := gs) (m := [((J : Int), (m : Int) - 1)]) hown rfl rfl
                have BN := Lib.hid ((HB2.out.alloc HB2.out.size (.cells #[.int .i64 (J : Int), .int .i64 ((m : Int) - 1)] 52)).grown hgr (by have := HB2.out.size; simp only [World.size_alloc]; omega) (fun j hj => (OG2.out.block hj).1))
                have OPN := Lib.hid ((OP2.out.alloc (.cells #[.int .i64 (J : Int), .int .i64 ((m : Int) - 1)] 52)).kept hgr (types_ne OP2.out OG2.out (by decide)))
                have HAP := Lib.hid AP
                clear hown hgr hgb hlt2 AP hps'
                go_roundw
                case rel => exact ⟨m, ps, _, hmL, rfl, by have := HPL.out; omega, by have := HGL.out; rw [List.length_append]; simp; omega, OPN, HAP, BN, HV2⟩
                case measure => simp [intOf]; omega
              | false =>
                have E2 := Lib.hid (E.out.trans (by rw [pass_no hs]))
                have HS := Lib.hid hs
                clear hs
                go_wp2_with fail
                refine (rmark_any _ _).mono ?_
                rintro e w' ⟨rfl, rfl⟩
                rw [HS.out]
                go_wp2_with fail
                go_roundw
                case rel => exact ⟨k + 1, by omega, by omega, by go_num, Lib.hid (by rw [E2.out]; omega), trivial⟩
                case measure => simp [intOf]; omega
            · have hmk : m = k := by
                have e := V2.out
                rw [show k = vs.length by have := HL2.out; omega, List.drop_length] at e
                have : pass ([] : List Int) = 0 := rfl
                have := HL2.out
                omega
              subst hmk
              clear V2
              have hps' := HPL.out
              obtain ⟨A8, c8, rfl, _, _, _⟩ := OP2.out.slice
              go_wp2_with (first | (at_builtin; refine wpList_append_lies _ rfl (.tmp 58) (.tmp 63) 35 rfl w1.heap.size 52 j0 (.agg #[.int .i64 0, .int .i64 0]) 2 16 Tryd.underlying35 hj hy0 hy1 hy2 rfl (by decide) _ gs.length ((flatI gs).map (Value.int .i64)) rfl (OG2.out.alloc _) ⟨wo.heap.size, 0, none⟩ 1 1 ((flatI [((J : Int), (m : Int) - 1)]).map (Value.int .i64)) rfl rfl (news_int (W := wo) (ys := flatI [((J : Int), (m : Int) - 1)])) (one_cells (ys := flatI [((J : Int), (m : Int) - 1)])) (by decide) (by unfold maxLen; have := HGL.out; omega) (by have := HGL.out; omega) (by have := HB2.out.size; simp only [World.size_alloc]; omega) _ rfl ?_; intro g cap w4 hown hgr hgb hlt2))
              have AP := IOwn.app (l := gs) (m := [((J : Int), (m : Int) - 1)]) hown rfl rfl
              have BN := Lib.hid ((HB2.out.alloc HB2.out.size (.cells #[.int .i64 (J : Int), .int .i64 ((m : Int) - 1)] 52)).grown hgr (by have := HB2.out.size; simp only [World.size_alloc]; omega) (fun j hj => (OG2.out.block hj).1))
              have OPN := Lib.hid ((OP2.out.alloc (.cells #[.int .i64 (J : Int), .int .i64 ((m : Int) - 1)] 52)).kept hgr (types_ne OP2.out OG2.out (by decide)))
              have HAP := Lib.hid AP
              clear hown hgr hgb hlt2 AP hps'
              go_roundw
              case rel => exact ⟨m, ps, _, hmL, rfl, by have := HPL.out; omega, by have := HGL.out; rw [List.length_append]; simp; omega, OPN, HAP, BN, HV2⟩
              case measure => simp [intOf]; omega
      · obtain rfl : J = L := by omega
        have hv := V.out
        rw [HL.out, List.drop_length, decV_nil, List.append_nil, List.append_nil] at hv
        have OP2 := Lib.hid (OP.out.base HB1.out.size)
        have OG2 := Lib.hid (OG.out.base HB1.out.size)
        have BW := Lib.hid (HB1.out.trans (B.out.mono HB1.out.size))
        have HVE := Lib.hid hv
        obtain ⟨A8, c8, rfl, _, _, _⟩ := OP.out.slice
        clear hv hlt V
        by_cases hlim : 4096 < ps.length
        · have HP := Lib.hid (decD_big HU.out (by rw [HVE.out]; exact hlim))
          have hli : (4096 : Int) < (ps.length : Int) := by omega
          go_wp2_with fail
          exact bodyPost_ret (v := .tuple #[.slice none 0 0, .slice none 0 0, .int .i64 3]) (by simp [results, Tryd.results36, go_sem]) rfl (DecPost.mk' HP.out rfl POwn.nil IOwn.nil BW.out)
        · have HP := Lib.hid (decD_ok HU.out HVE.out hlim)
          have hli : ¬ (4096 : Int) < (ps.length : Int) := by omega
          go_wp2_with fail
          exact bodyPost_ret (by simp [results, Tryd.results36, go_sem]) rfl (DecPost.mk' HP.out rfl OP2.out OG2.out BW.out)
  · have hne : (er != 0) = true := by rw [bne_iff_ne]; exact he
    have HP := Lib.hid (decD_err (xs := xs) (by rw [HU.out]; exact he))
    rw [HU.out] at HP
    clear he
    go_wp2_with fail
    exact bodyPost_ret (v := .tuple #[.slice none 0 0, .slice none 0 0, .int .i64 er]) (by simp [results, Tryd.results36, go_sem]) rfl (DecPost.mk' HP.out rfl POwn.nil IOwn.nil HB1.out)
end Go.Proofs.YtbpgbdnfoofnaaaDoor
