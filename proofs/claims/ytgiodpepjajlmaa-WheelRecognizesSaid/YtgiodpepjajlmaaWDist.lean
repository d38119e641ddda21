/-
  Stage 7: the program's Distances.
-/
import Derived.Test.YtgiodpepjajlmaaWOff
set_option linter.unusedSimpArgs false
set_option linter.unusedVariables false
namespace Go.Proofs.Ytgiodpepjajlmaa
open Go.RowKit

theorem distR_big {l : List Wag} (h : 96 < l.length) : distR l = ([], 3) := by unfold distR; rw [if_pos h]
theorem distR_bad {l : List Wag} (h : ¬ 96 < l.length) (he : errK l ≠ 0) : distR l = ([], errK l) := by unfold distR; rw [if_neg h, if_neg he]
theorem distR_ok {l : List Wag} (h : ¬ 96 < l.length) (he : errK l = 0) : distR l = (dfs (plK l l.length), 0) := by unfold distR; rw [if_neg h, if_pos he]
theorem wgAt_drop {l : List Wag} {k : Nat} (hk : k < l.length) : l[k]? = some (wgAt l k) ∧ l.drop k = wgAt l k :: l.drop (k + 1) := by
  obtain ⟨x, hx, hd, _⟩ := drop_ex hk
  rw [wgAt_get hx]
  exact ⟨hx, hd⟩
/-- All wagons so far are valid. -/
def Good7 (l : List Wag) (k : Nat) : Prop := (∀ j, j < k → validW (wgAt l j) = 0) ∧ errK l = errK (l.drop k)
theorem Good7.zero (l : List Wag) : Good7 l 0 := ⟨fun j hj => by omega, rfl⟩
theorem Good7.succ {l : List Wag} {k : Nat} (h : Good7 l k) (hk : k < l.length) (hv : validW (wgAt l k) = 0) : Good7 l (k + 1) := by
  refine ⟨fun j hj => ?_, h.2.trans (errK_drop (wgAt_drop hk).2 hv)⟩
  by_cases e : j = k
  · subst e; exact hv
  · exact h.1 j (by omega)
theorem Good7.bad {l : List Wag} {k : Nat} (h : Good7 l k) (hk : k < l.length) (hv : validW (wgAt l k) ≠ 0) : errK l = validW (wgAt l k) := h.2.trans (errK_bad (wgAt_drop hk).2 hv)
theorem Good7.all {l : List Wag} (h : Good7 l l.length) : errK l = 0 := by rw [h.2, List.drop_length]; rfl
theorem take_snocI (zs : List Int) (j : Nat) (h : j < zs.length) : zs.take (j + 1) = zs.take j ++ [zs.getD j 0] := by
  rw [List.take_succ_eq_append_getElem h, List.getD_eq_getElem?_getD, List.getElem?_eq_getElem h]; rfl
/-- The places while those of a wagon are written. -/
def plJ (l : List Wag) (k j : Nat) : List Int := plK l k ++ ((offW (wgAt l k)).take j).map (fun z => frK l k + z)
theorem plJ_zero (l : List Wag) (k : Nat) : plJ l k 0 = plK l k := by unfold plJ; simp
theorem plJ_end (l : List Wag) (k : Nat) : plJ l k (offW (wgAt l k)).length = plK l (k + 1) := by unfold plJ; rw [List.take_length]; rfl
theorem plJ_step (l : List Wag) (k j : Nat) (h : j < (offW (wgAt l k)).length) : plJ l k (j + 1) = plJ l k j ++ [frK l k + (offW (wgAt l k)).getD j 0] := by
  unfold plJ; rw [take_snocI _ _ h, List.map_append, ← List.append_assoc]; rfl
theorem plJ_len (l : List Wag) (k j : Nat) (h : j ≤ (offW (wgAt l k)).length) : (plJ l k j).length = (plK l k).length + j := by
  unfold plJ; rw [List.length_append, List.length_map, List.length_take]; omega

set_option maxHeartbeats 3200000 in
theorem pdist_any (l : List Wag) (A : Option Addr) (c : Nat) (w : World) (h : RRow WR w A l) :
    Calls Try.prog 16 #[.slice A l.length c] w (PairPost (distR l).1 (distR l).2 w) := by
  have hl : l.length ≤ 9223372036854775807 := h.len
  by_cases hbig : 96 < l.length
  · have HP := Lib.hid (distR_big hbig)
    have hb : (96 : Int) < (l.length : Int) := by omega
    clear h
    go_enter Try.func16, Try.ntmps16
    go_wp2_with fail
    go_ret2
    exact PairPost.of HP.out Own.nil (Below.refl _ _)
  · have H := Lib.hid h
    have HBIG := Lib.hid hbig
    obtain ⟨L, hL⟩ : ∃ n, n = l.length := ⟨_, rfl⟩
    have HL := Lib.hid hL
    rw [← hL] at hl hbig ⊢
    clear h hL
    go_enter Try.func16, Try.ntmps16
    go_wp2_with fail
    go_loopw [4, 5, 19] (fun v f i wr => ∃ k : Nat, k ≤ L ∧ i = .int .i64 k ∧ ∃ fr : Int, f = .int .i64 fr ∧ Hid (fr = frK l k) ∧ Hid (Good7 l k) ∧ Hid (Own .i64 3 wr w.heap.size v (plK l k)) ∧ Hid (Below w.heap.size w wr)) (fun _ _ i _ => L - (intOf i).toNat)
    case atStart => exact ⟨0, by omega, rfl, 0, rfl, Lib.hid rfl, Lib.hid (Good7.zero l), Lib.hid Own.nil, Lib.hid (Below.refl _ _)⟩
    case round =>
      obtain ⟨k, hk, rfl, fr, rfl, HFR, G, O, B⟩ := hrel
      generalize u4 = vo at *
      generalize wr = wo at *
      by_cases hlt : k < L
      · obtain ⟨hx, hd⟩ := wgAt_drop (l := l) (k := k) (by rw [← HL.out]; exact hlt)
        have HLT := Lib.hid (show k < l.length by rw [← HL.out]; exact hlt)
        obtain ⟨ad, rfl, C⟩ := (H.out.below B.out).at_ hx
        obtain ⟨c0, c1, c2, c3, c4, c5, c6, c7⟩ := WSpelt.of C
        obtain ⟨x, hxx⟩ : ∃ x, x = wgAt l k := ⟨_, rfl⟩
        have HX := Lib.hid hxx
        rw [← hxx] at c0 c1 c2 c3 c4 c5 c6 c7
        clear hx hd C hxx
        go_wp2_with fail
        refine (poff_any x _).mono ?_
        rintro e w1 ⟨v1, rfl, O1, B1⟩
        clear c0 c1 c2 c3 c4 c5 c6 c7
        have HC := Lib.hid ((newW wo x 30 wo.heap.size rfl).below B1)
        have HB := Lib.hid (B.out.trans ((below1 B1).mono B.out.size))
        have HO := Lib.hid ((O.out.alloc (.cells #[.string x.num, .int .i64 x.len, .int .i64 x.axl, .int .i64 x.mas, .int .i64 x.brk, .int .i64 x.gds, .bool x.gen, .string x.dst] 30)).below B1)
        have O1 := Lib.hid O1
        have HVO := Lib.hid (fun g (hg : vo.ownBlock = some g) => own_block O.out hg)
        clear B1 O B
        by_cases h0 : validW x ≠ 0
        · have HV := Lib.hid (show distR l = ([], validW x) by
            have e := G.out.bad HLT.out (by rw [← HX.out]; exact h0)
            rw [← HX.out] at e
            rw [distR_bad HBIG.out (by rw [e]; exact h0), e])
          have ev : (validW x != 0) = true := bne_iff_ne.2 h0
          have e2 := offR_bad h0
          clear h0
          rw [e2]
          clear e2
          go_wp2_with fail
          go_ret2
          exact PairPost.of HV.out Own.nil HB.out
        · have h0 := Decidable.of_not_not h0
          have G1 := Lib.hid (G.out.succ HLT.out (by rw [← HX.out]; exact h0))
          obtain ⟨x1, x2, -, -⟩ := validW_len h0
          have PB := Lib.hid (placed G1.out.1 (k + 1) (Nat.le_refl _))
          have PA := Lib.hid (placed G1.out.1 k (by omega))
          have e2 := offR_ok h0
          have OL := offW_asc h0
          rw [e2] at O1 ⊢
          obtain ⟨os, hos⟩ : ∃ os, os = offW x := ⟨_, rfl⟩
          have HOS := Lib.hid hos
          simp only [← hos] at O1 OL
          obtain ⟨oa, -, ol1, ol2⟩ := OL
          have OA := Lib.hid oa
          have hfb := PA.out.fr
          rw [← HFR.out] at hfb
          have hkl : k ≤ 96 := by omega
          obtain ⟨fb1, fb2⟩ := hfb
          obtain ⟨A1, c1, rfl, R1⟩ := OwnI.read O1.out
          obtain ⟨M, hM⟩ : ∃ M, M = os.length := ⟨_, rfl⟩
          have HM := Lib.hid hM
          rw [← hM] at ol1 ol2 ⊢
          clear h0 e2 hos oa R1 hM hkl
          have HG0 := Lib.hid (show ∀ g, vo.ownBlock = some g → w.heap.size ≤ g ∧ g < wo.heap.size from fun g hg => HVO.out g hg)
          have HNE := Lib.hid (show (Value.slice A1 os.length c1).ownBlock = none ∨ (Value.slice A1 os.length c1).ownBlock ≠ vo.ownBlock from by
            cases hv : (Value.slice A1 os.length c1).ownBlock with
            | none => exact Or.inl rfl
            | some g =>
              refine Or.inr (fun e => ?_)
              have h1 := (own_block O1.out hv).1
              have h2 := (HVO.out g e.symm).2
              simp at h1
              omega)
          go_wp2_with fail
          go_loopw [4, 33] (fun v i wr => ∃ j : Nat, j ≤ M ∧ i = .int .i64 j ∧ Hid (Own .i64 3 wr w.heap.size v (plJ l k j)) ∧ Hid (Gr w1 vo.ownBlock v wr)) (fun _ i _ => M - (intOf i).toNat)
          case atStart => exact ⟨0, by omega, rfl, Lib.hid (by rw [plJ_zero]; exact HO.out), Lib.hid (Gr.refl w1 vo)⟩
          case round =>
            clear HO
            obtain ⟨j, hj, rfl, OJ, GJ⟩ := hrel
            have RJ := (OwnI.read (GJ.out.keep O1.out HNE.out))
            have HBJ := Lib.hid (GJ.out.base HB.out HB.out.size (fun g hg => (HG0.out g hg).1))
            by_cases hlj : j < M
            · obtain ⟨A2, c2, e2, R2⟩ := RJ
              injection e2 with e2 _ e3
              subst e2; subst e3
              obtain ⟨a1, rfl, -, cj⟩ := R2 j (by rw [← HM.out]; exact hlj)
              have hpj := OA.out.pos j (by rw [← HM.out]; exact hlj)
              obtain ⟨z, hz⟩ : ∃ z, z = os.getD j 0 := ⟨_, rfl⟩
              rw [← hz] at cj hpj
              obtain ⟨z1, z2⟩ := hpj
              have HS := Lib.hid (show plJ l k (j + 1) = plJ l k j ++ [fr + z] by
                rw [plJ_step l k j (by rw [← HX.out, ← HOS.out, ← HM.out]; exact hlj), ← HFR.out, ← HX.out, ← HOS.out, hz])
              have HLEN := Lib.hid (show (plJ l k j).length + 1 ≤ 1000000000 by
                rw [plJ_len l k j (by rw [← HX.out, ← HOS.out, ← HM.out]; omega)]
                have := PA.out.len
                omega)
              have HSB := Lib.hid HBJ.out.size
              clear hz R2
              go_wp2_with (first | (at_builtin; refine wpList_appI _ rfl (.tmp 37) (.tmp 41) rfl w.heap.size _ _ rfl (OJ.out.alloc _) (fr + z) wr rfl _ rfl 1 rfl HLEN.out (le_allocW HSB.out) ?_; intro v5 w5 A5))
              have G2 := Lib.hid ((GJ.out.alloc _).app A5)
              have O2 := Lib.hid A5.1
              clear A5 OJ GJ HBJ HSB cj
              go_roundw
              case rel => exact ⟨j + 1, by omega, by go_num, Lib.hid (by rw [HS.out]; exact O2.out), G2⟩
              case measure => simp [intOf] <;> omega
            · obtain rfl : j = M := by omega
              clear RJ
              have HC2 := Lib.hid (HC.out.grown GJ.out.gr (fun e => by have := (HG0.out _ e).2; omega))
              obtain ⟨-, c1', -⟩ := WBlk.of HC2.out
              have HE := Lib.hid (show plJ l k j = plK l (k + 1) by rw [HM.out, HOS.out, HX.out]; exact plJ_end l k)
              have HF2 := Lib.hid (show fr + 10 * x.len = frK l (k + 1) by rw [HFR.out, HX.out]; rfl)
              go_wp2_with fail
              go_roundw
              case rel => exact ⟨k + 1, by have := HLT.out; have := HL.out; omega, by go_num, _, rfl, HF2, G1, Lib.hid (by rw [← HE.out]; exact OJ.out), HBJ⟩
              case measure => have := HLT.out; have := HL.out; simp [intOf] <;> omega
      · obtain rfl : k = L := by omega
        have HE := Lib.hid (show distR l = (dfs (plK l k), 0) by
          have e : errK l = 0 := by
            have := G.out
            rw [HL.out] at this
            exact this.all
          rw [distR_ok HBIG.out e, HL.out])
        have PK := Lib.hid (placed G.out.1 k (Nat.le_refl _))
        obtain ⟨P, hP⟩ : ∃ P, P = plK l k := ⟨_, rfl⟩
        have hO := O.out
        have hpl := PK.out.len
        have hpu := PK.out.up
        have hpb := PK.out.bd
        have hfu := PK.out.fr
        rw [← hP] at hO hpl hpu hpb
        have HPP := Lib.hid hP
        have OP := Lib.hid hO
        have PU := Lib.hid hpu
        have PBD := Lib.hid (show ∀ j, j < P.length → 0 < P.getD j 0 ∧ P.getD j 0 < 4000 * 96 from fun j hj => by have := hpb j hj; omega)
        have HVO := Lib.hid (fun g (hg : vo.ownBlock = some g) => own_block hO hg)
        obtain ⟨M, hM⟩ : ∃ M, M = P.length := ⟨_, rfl⟩
        have HM := Lib.hid hM
        obtain ⟨pl1, pl2⟩ := hpl
        rw [← hM] at pl1 pl2
        have hm600 : M ≤ 576 := by omega
        obtain ⟨A1, c1, rfl, R1⟩ := OwnI.read hO
        have HR1 := Lib.hid R1
        have HWS := Lib.hid B.out.size
        rw [← hM]
        clear hP hO hpu hpb hfu hM R1 hlt hk pl1 pl2 O PK
        go_wp2_with fail
        go_loopw [12, 13] (fun v i wr => ∃ j : Nat, (j = 0 ∨ j + 1 ≤ M) ∧ i = .int .i64 ((j : Int) + 1) ∧ Hid (Own .i64 3 wr w.heap.size v (dfK P j)) ∧ Hid (Gr wo none v wr)) (fun _ i _ => M - (intOf i).toNat)
        case atStart => exact ⟨0, Or.inl rfl, rfl, Lib.hid Own.nil, Lib.hid (Gr.nil wo none)⟩
        case round =>
          obtain ⟨j, hj, rfl, OJ, GJ⟩ := hrel
          have HBJ := Lib.hid (GJ.out.base B.out B.out.size (fun g hg => by cases hg))
          have HJ := Lib.hid hj
          by_cases hlj : j + 1 < M
          · obtain ⟨A2, c2, e2, R2⟩ := OwnI.read (GJ.out.keep OP.out (Classical.em _))
            rw [← HM.out] at e2
            injection e2 with e2 _ e3
            subst e2; subst e3
            obtain ⟨a1, rfl, -, cj⟩ := R2 j (by rw [← HM.out]; omega)
            obtain ⟨a2, e2, -, ck⟩ := R2 (j + 1) (by rw [← HM.out]; omega)
            injection e2 with e2
            subst e2
            have b1 := PBD.out j (by rw [← HM.out]; omega)
            have b2 := PBD.out (j + 1) (by rw [← HM.out]; omega)
            have HS := Lib.hid (show dfK P (j + 1) = dfK P j ++ [P.getD (j + 1) 0 - P.getD j 0] from rfl)
            have HLEN := Lib.hid (show (dfK P j).length + 1 ≤ 1000000000 by rw [dfK_len]; omega)
            have HSB := Lib.hid HBJ.out.size
            obtain ⟨y0, hy0⟩ : ∃ y, y = P.getD j 0 := ⟨_, rfl⟩
            obtain ⟨y1, hy1⟩ : ∃ y, y = P.getD (j + 1) 0 := ⟨_, rfl⟩
            rw [← hy0, ← hy1] at HS
            rw [← hy0] at cj b1
            rw [← hy1] at ck b2
            have hlj' : (j : Int) + 1 < (M : Int) := by omega
            have j0 : (0 : Int) ≤ (j : Int) := by omega
            have jw : IntKind.i64.wrap (j : Int) = (j : Int) := IntWalk.i64_in _ (by omega)
            have j2 : (0 : Int) ≤ (j : Int) + 1 := by omega
            rw [add_sc] at ck
            have j1 : (j : Int) < (M : Int) := by omega
            have jt : ((j : Int) + 1).toNat = j + 1 := by omega
            have js : (j : Int) + 1 - 1 = (j : Int) := by omega
            obtain ⟨b11, b12⟩ := b1
            obtain ⟨b21, b22⟩ := b2
            have yw : IntKind.i64.wrap (y1 - y0) = y1 - y0 := IntWalk.i64_in _ (by omega)
            clear hy0 hy1 R2 hj
            go_upto_region 22 with fail
            go_region_law (refine step_appI _ rfl (.tmp 56) (.tmp 67) rfl w.heap.size _ (dfK P j) rfl (OJ.out.alloc _) (y1 - y0) wr.drew rfl _ rfl 1 rfl HLEN.out (le_allocW (w := wr) HSB.out) ?_; intro v5 w5 A5)
            all_goals
              have G2 := Lib.hid (((GJ.out.drewN 1).alloc _).app A5)
              have O2 := Lib.hid A5.1
              clear A5 OJ GJ HBJ HSB cj ck
              go_wp2_with fail
              go_roundw
              case rel => exact ⟨j + 1, Or.inr (by omega), by go_num, Lib.hid (by rw [HS.out]; exact O2.out), G2⟩
              case measure => simp [intOf] <;> omega
          · have HE2 := Lib.hid (show dfK P j = dfs (plK l k) by
              rw [← HPP.out]; unfold dfs; rw [← HM.out]
              rcases HJ.out with h | h
              · subst h; rw [show M - 1 = 0 by omega]
              · rw [show M - 1 = j by omega])
            rw [HE2.out] at OJ
            have hlj' : ¬ (j : Int) + 1 < (M : Int) := by omega
            clear hj hlj
            go_wp2_with fail
            go_ret2
            exact PairPost.of HE.out OJ.out HBJ.out
end Go.Proofs.Ytgiodpepjajlmaa
