/-
  Stage 7: the reference's Distances.
-/
import Derived.Test.YtgiodpepjajlmaaWDist
import Derived.Test.YtgiodpepjajlmaaWROff
import Derived.Test.YtgiodpepjajlmaaCRlist
set_option linter.unusedSimpArgs false
set_option linter.unusedVariables false
namespace Go.Proofs.Ytgiodpepjajlmaa
open Go.RowKit

def lstI (zs : List Int) : Int := zs.getD (zs.length - 1) 0
theorem lstI_snoc (zs : List Int) (b : Int) : lstI (zs ++ [b]) = b := by
  unfold lstI
  rw [getD_app_right (by simp)]
  simp
theorem dfs_one {zs : List Int} {b : Int} (h : zs.length = 0) : dfs (zs ++ [b]) = dfs zs := by
  have : zs = [] := List.length_eq_zero_iff.1 h
  subst this; rfl
theorem dfs_more {zs : List Int} {b : Int} (h : 0 < zs.length) : dfs (zs ++ [b]) = dfs zs ++ [b - lstI zs] := by
  rw [dfs_snoc, if_neg (fun e => by rw [e] at h; simp at h)]; rfl

set_option maxHeartbeats 3200000 in
theorem rdist_any (l : List Wag) (A : Option Addr) (c : Nat) (w : World) (h : RRow WR w A l) (hz : ∀ x ∈ l, x.dst.size ≤ 4611686018427387904) :
    Calls Try.prog 17 #[.slice A l.length c] w (PairPost (distR l).1 (distR l).2 w) := by
  have hl : l.length ≤ 9223372036854775807 := h.len
  by_cases hbig : 96 < l.length
  · have HP := Lib.hid (distR_big hbig)
    have hb : (96 : Int) < (l.length : Int) := by omega
    clear h
    go_enter Try.func17, Try.ntmps17
    go_wp2_with fail
    go_ret2
    exact PairPost.of HP.out Own.nil (Below.refl _ _)
  · have H := Lib.hid h
    have HSZ := Lib.hid hz
    have HBIG := Lib.hid hbig
    obtain ⟨L, hL⟩ : ∃ n, n = l.length := ⟨_, rfl⟩
    have HL := Lib.hid hL
    rw [← hL] at hl hbig ⊢
    clear h hL hz
    go_enter Try.func17, Try.ntmps17
    go_wp2_with fail
    go_loopw [4, 5, 6, 7] (fun v f la i wr => ∃ k : Nat, k ≤ L ∧ i = .int .i64 k ∧ ∃ fr ls : Int, f = .int .i64 fr ∧ la = .int .i64 ls ∧ Hid (fr = frK l k) ∧ Hid (ls = lstI (plK l k)) ∧ Hid (Good7 l k) ∧ Hid (Own .i64 3 wr w.heap.size v (dfs (plK l k))) ∧ Hid (Below w.heap.size w wr)) (fun _ _ _ i _ => L - (intOf i).toNat)
    case atStart => exact ⟨0, by omega, rfl, 0, 0, rfl, rfl, Lib.hid rfl, Lib.hid rfl, Lib.hid (Good7.zero l), Lib.hid Own.nil, Lib.hid (Below.refl _ _)⟩
    case round =>
      obtain ⟨k, hk, rfl, fr, ls, rfl, rfl, HFR, HLS, G, O, B⟩ := hrel
      generalize u4 = vo at *
      generalize wr = wo at *
      by_cases hlt : k < L
      · obtain ⟨hx, hd⟩ := wgAt_drop (l := l) (k := k) (by rw [← HL.out]; exact hlt)
        have HLT := Lib.hid (show k < l.length by rw [← HL.out]; exact hlt)
        have hxs := HSZ.out _ (List.mem_of_getElem? hx)
        obtain ⟨ad, rfl, C⟩ := (H.out.below B.out).at_ hx
        obtain ⟨c0, c1, c2, c3, c4, c5, c6, c7⟩ := WSpelt.of C
        obtain ⟨x, hxx⟩ : ∃ x, x = wgAt l k := ⟨_, rfl⟩
        have HX := Lib.hid hxx
        rw [← hxx] at c0 c1 c2 c3 c4 c5 c6 c7 hxs
        have HCC := Lib.hid C
        have HXS := Lib.hid hxs
        clear hx hd C hxx hxs
        go_wp2_with fail
        refine (roff_any x _ HXS.out).mono ?_
        rintro e w1 ⟨v1, rfl, O1, B1⟩
        clear c0 c1 c2 c3 c4 c5 c6 c7
        have HC1 := Lib.hid (HCC.out.below B1)
        have HB := Lib.hid (B.out.trans (B1.mono B.out.size))
        have HO := Lib.hid (O.out.below B1)
        have O1 := Lib.hid O1
        have HVO := Lib.hid (fun g (hg : vo.ownBlock = some g) => own_block O.out hg)
        clear B1 O B HCC
        by_cases h0 : validW x ≠ 0
        · have HV := Lib.hid (show distR l = ([], validW x) by
            have e := G.out.bad HLT.out (by rw [← HX.out]; exact h0)
            rw [← HX.out] at e
            rw [distR_bad HBIG.out (by rw [e]; exact h0), e])
          have ev : (validW x != 0) = true := bne_iff_ne.2 h0
          have e2 := offR_bad h0
          clear h0
          rw [e2]
          clear e2
          go_wp2_with fail
          go_ret2
          exact PairPost.of HV.out Own.nil HB.out
        · have h0 := Decidable.of_not_not h0
          have G1 := Lib.hid (G.out.succ HLT.out (by rw [← HX.out]; exact h0))
          obtain ⟨x1, x2, -, -⟩ := validW_len h0
          have PB := Lib.hid (placed G1.out.1 (k + 1) (Nat.le_refl _))
          have PA := Lib.hid (placed G1.out.1 k (by omega))
          have e2 := offR_ok h0
          have OL := offW_asc h0
          rw [e2] at O1 ⊢
          obtain ⟨os, hos⟩ : ∃ os, os = offW x := ⟨_, rfl⟩
          have HOS := Lib.hid hos
          simp only [← hos] at O1 OL
          obtain ⟨oa, -, ol1, ol2⟩ := OL
          have OA := Lib.hid oa
          have hfb := PA.out.fr
          rw [← HFR.out] at hfb
          have hkl : k ≤ 96 := by omega
          obtain ⟨fb1, fb2⟩ := hfb
          obtain ⟨A1, c1, rfl, R1⟩ := OwnI.read O1.out
          obtain ⟨M, hM⟩ : ∃ M, M = os.length := ⟨_, rfl⟩
          have HM := Lib.hid hM
          rw [← hM] at ol1 ol2 ⊢
          have fb3 : fr ≤ 384000 := by omega
          have HK96 := Lib.hid hkl
          clear h0 e2 hos oa R1 hM
          have HG0 := Lib.hid (show ∀ g, vo.ownBlock = some g → w.heap.size ≤ g ∧ g < wo.heap.size from fun g hg => HVO.out g hg)
          have HNE := Lib.hid (show (Value.slice A1 os.length c1).ownBlock = none ∨ (Value.slice A1 os.length c1).ownBlock ≠ vo.ownBlock from by
            cases hv : (Value.slice A1 os.length c1).ownBlock with
            | none => exact Or.inl rfl
            | some g =>
              refine Or.inr (fun e => ?_)
              have h1 := (own_block O1.out hv).1
              have h2 := (HVO.out g e.symm).2
              omega)
          go_wp2_with fail
          go_loopw [4, 6, 10] (fun v la i wr => ∃ j : Nat, j ≤ M ∧ i = .int .i64 j ∧ ∃ ls' : Int, la = .int .i64 ls' ∧ Hid (ls' = lstI (plJ l k j)) ∧ Hid (Own .i64 3 wr w.heap.size v (dfs (plJ l k j))) ∧ Hid (Gr w1 vo.ownBlock v wr)) (fun _ _ i _ => M - (intOf i).toNat)
          case atStart => exact ⟨0, by omega, rfl, ls, rfl, Lib.hid (by rw [plJ_zero]; exact HLS.out), Lib.hid (by rw [plJ_zero]; exact HO.out), Lib.hid (Gr.refl w1 vo)⟩
          case round =>
            clear HO HLS
            obtain ⟨j, hj, rfl, ls', rfl, HLS, OJ, GJ⟩ := hrel
            have RJ := (OwnI.read (GJ.out.keep O1.out HNE.out))
            have HBJ := Lib.hid (GJ.out.base HB.out HB.out.size (fun g hg => (HG0.out g hg).1))
            by_cases hlj : j < M
            · obtain ⟨A2, c2, e2, R2⟩ := RJ
              injection e2 with e2 _ e3
              subst e2; subst e3
              obtain ⟨a1, rfl, -, cj⟩ := R2 j (by rw [← HM.out]; exact hlj)
              have hpj := OA.out.pos j (by rw [← HM.out]; exact hlj)
              obtain ⟨z, hz⟩ : ∃ z, z = os.getD j 0 := ⟨_, rfl⟩
              rw [← hz] at cj hpj
              obtain ⟨z1, z2⟩ := hpj
              have hlen := plJ_len l k j (by rw [← HX.out, ← HOS.out, ← HM.out]; omega)
              have hpl := PA.out.len
              have HS := Lib.hid (show plJ l k (j + 1) = plJ l k j ++ [fr + z] by
                rw [plJ_step l k j (by rw [← HX.out, ← HOS.out, ← HM.out]; exact hlj), ← HFR.out, ← HX.out, ← HOS.out, hz])
              have HLEN := Lib.hid (show (dfs (plJ l k j)).length + 1 ≤ 1000000000 by rw [dfs_len]; omega)
              have HSB := Lib.hid HBJ.out.size
              have HLN := Lib.hid (show lstI (plJ l k (j + 1)) = fr + z by rw [HS.out, lstI_snoc])
              have hlb : 0 ≤ ls' ∧ ls' ≤ 400000 := by
                by_cases h0 : (plJ l k j).length = 0
                · have e : plJ l k j = [] := List.length_eq_zero_iff.1 h0
                  rw [HLS.out, e]; decide
                · by_cases hj0 : j = 0
                  · subst hj0
                    have h3 := PA.out.bd ((plK l k).length - 1) (by omega)
                    have e : lstI (plJ l k 0) = (plK l k).getD ((plK l k).length - 1) 0 := by rw [plJ_zero]; rfl
                    rw [HLS.out, e]
                    have := PA.out.fr
                    omega
                  · obtain ⟨j', rfl⟩ : ∃ j', j = j' + 1 := ⟨j - 1, by omega⟩
                    have h3 := OA.out.pos j' (by rw [← HM.out]; omega)
                    have e : plJ l k (j' + 1) = plJ l k j' ++ [fr + os.getD j' 0] := by
                      rw [plJ_step l k j' (by rw [← HX.out, ← HOS.out, ← HM.out]; omega), ← HFR.out, ← HX.out, ← HOS.out]
                    rw [HLS.out, e, lstI_snoc]
                    omega
              obtain ⟨lb1, lb2⟩ := hlb
              have HZ := Lib.hid hz
              have HLJ := Lib.hid (show j < os.length by rw [← HM.out]; exact hlj)
              clear hz R2
              by_cases hc0 : 0 < k + j
              · have hci : (0 : Int) < (k : Int) + (j : Int) := by omega
                have HD := Lib.hid (show dfs (plJ l k (j + 1)) = dfs (plJ l k j) ++ [fr + z - ls'] by
                  rw [HS.out, dfs_more (by omega), ← HLS.out])
                clear hc0 hlen hpl
                go_wp2_with (first | (at_builtin; refine wpList_appI _ rfl (.tmp 41) (.tmp 50) rfl w.heap.size _ _ rfl (OJ.out.alloc _) (fr + z - ls') wr rfl _ rfl 1 rfl HLEN.out (le_allocW HSB.out) ?_; intro v5 w5 A5; have cj5 : w5.cell? (a1.add j) = some (.int .i64 z) := (by rw [HZ.out]; exact ((GJ.out.alloc _).app A5).cellAt O1.out HNE.out j HLJ.out)))
                have G2 := Lib.hid ((GJ.out.alloc _).app A5)
                have O2 := Lib.hid A5.1
                clear A5 OJ GJ HBJ HSB cj cj5
                go_roundw
                case rel => exact ⟨j + 1, by omega, by go_num, _, rfl, Lib.hid HLN.out.symm, Lib.hid (by rw [HD.out]; exact O2.out), G2⟩
                case measure => simp [intOf] <;> omega
              · have hci : ¬ (0 : Int) < (k : Int) + (j : Int) := by omega
                have HD := Lib.hid (show dfs (plJ l k (j + 1)) = dfs (plJ l k j) by
                  rw [HS.out, dfs_one]
                  rw [hlen]
                  obtain rfl : k = 0 := by omega
                  simp [plK]; omega)
                clear hc0 hlen hpl
                go_wp2_with fail
                go_roundw
                case rel => exact ⟨j + 1, by omega, by go_num, _, rfl, Lib.hid HLN.out.symm, Lib.hid (by rw [HD.out]; exact OJ.out), GJ⟩
                case measure => simp [intOf] <;> omega
            · obtain rfl : j = M := by omega
              clear RJ
              have HE := Lib.hid (show plJ l k j = plK l (k + 1) by rw [HM.out, HOS.out, HX.out]; exact plJ_end l k)
              have HF2 := Lib.hid (show fr + 10 * x.len = frK l (k + 1) by rw [HFR.out, HX.out]; rfl)
              obtain ⟨ad', ea, C3⟩ := (H.out.below HBJ.out).at_ (wgAt_drop HLT.out).1
              injection ea with ea
              subst ea
              rw [← HX.out] at C3
              obtain ⟨-, c1, -⟩ := WSpelt.of C3
              clear C3
              go_wp2_with fail
              go_roundw
              case rel => exact ⟨k + 1, by have := HLT.out; have := HL.out; omega, by go_num, _, _, rfl, rfl, HF2, Lib.hid (by rw [← HE.out]; exact HLS.out), G1, Lib.hid (by rw [← HE.out]; exact OJ.out), HBJ⟩
              case measure => have := HLT.out; have := HL.out; simp [intOf] <;> omega
      · obtain rfl : k = L := by omega
        have HE := Lib.hid (show distR l = (dfs (plK l k), 0) by
          have e : errK l = 0 := by
            have := G.out
            rw [HL.out] at this
            exact this.all
          rw [distR_ok HBIG.out e, HL.out])
        clear hlt hk
        go_wp2_with fail
        go_ret2
        exact PairPost.of HE.out O.out B.out
end Go.Proofs.Ytgiodpepjajlmaa
