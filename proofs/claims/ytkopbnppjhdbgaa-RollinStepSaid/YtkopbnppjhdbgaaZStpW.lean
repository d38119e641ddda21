/-
  Stage 14: the walk of RollinStep.
-/
import Derived.Test.YtkopbnppjhdbgaaZStpA
set_option linter.unusedSimpArgs false
set_option linter.unusedVariables false
namespace Go.Proofs.Ytkopbnppjhdbgaa
open Go.RowKit Go.Lib

/-- The first one that is at least t, or -1. -/
def firstG (t : Nat) : List Nat → Int
  | [] => -1
  | z :: r => if t ≤ z then (z : Int) else firstG t r
theorem firstG_drop {t : Nat} {Z : List Nat} {j : Nat} (h : j < Z.length) : firstG t (Z.drop j) = if t ≤ Z.getD j 0 then ((Z.getD j 0 : Nat) : Int) else firstG t (Z.drop (j + 1)) := by
  have e : Z.drop j = Z.getD j 0 :: Z.drop (j + 1) := by
    rw [List.drop_eq_getElem_cons h, List.getD_eq_getElem?_getD, List.getElem?_eq_getElem h]; rfl
  rw [e]; rfl
theorem firstG_spec (t : Nat) : ∀ Z : List Nat, (firstG t Z = -1 ∧ ∀ j, j < Z.length → Z.getD j 0 < t) ∨ ∃ i, i < Z.length ∧ firstG t Z = ((Z.getD i 0 : Nat) : Int) ∧ t ≤ Z.getD i 0 ∧ ∀ j, j < i → Z.getD j 0 < t := by
  intro Z
  induction Z with
  | nil => exact Or.inl ⟨rfl, fun j hj => by cases hj⟩
  | cons z r ih =>
    by_cases h : t ≤ z
    · exact Or.inr ⟨0, by simp, if_pos h, h, fun j hj => absurd hj (Nat.not_lt_zero _)⟩
    · have e : firstG t (z :: r) = firstG t r := if_neg h
      rcases ih with ⟨a1, a2⟩ | ⟨i, a1, a2, a3, a4⟩
      · refine Or.inl ⟨by rw [e]; exact a1, fun j hj => ?_⟩
        cases j with
        | zero => show z < t; omega
        | succ j => exact a2 j (by simpa using hj)
      · refine Or.inr ⟨i + 1, by simpa using a1, by rw [e]; exact a2, a3, fun j hj => ?_⟩
        cases j with
        | zero => show z < t; omega
        | succ j => exact a4 j (by omega)
theorem firstG_dst {S K R t : Nat} (hS : S ≤ 12) (hK : K < 2 ^ S) (hR : R ≤ t) (ht : t ≤ S) : firstG t (blM K R 12) = if dst S K t < S then ((dst S K t : Nat) : Int) else -1 := by
  rcases firstG_spec t (blM K R 12) with ⟨a1, a2⟩ | ⟨i, a1, a2, a3, a4⟩
  · rw [a1, dst_last hS hR ht a2, if_neg (by omega)]
  · have h := dst_first hS hK hR ht a1 a3 a4
    have hm := (blM_mem 12 _).1 (getD_memN a1)
    have hlt : (blM K R 12).getD i 0 < S := by
      rcases Nat.lt_or_ge ((blM K R 12).getD i 0) S with g | g
      · exact g
      · have := bit_high hK g
        rw [this] at hm; cases hm.2.2
    rw [a2, h.1, if_pos hlt]
theorem comeL_succ (rd : Nat → Nat) (t x : Nat) : comeL (x + 1) rd t = comeL x rd t ++ if rd x = t then [x] else [] := by
  unfold comeL
  rw [List.range_succ, List.filter_append]
  by_cases e : rd x = t
  · rw [if_pos e]; simp [e]
  · rw [if_neg e]; simp [e]
set_option maxRecDepth 100000 in
set_option maxHeartbeats 6400000 in
theorem stp_walk (A : Option Addr) (c : Nat) (zs : List Int) (w : World) (hr : Row .i64 w w.heap.size A zs) (hm : zs.length ≤ maxLen) (hw : ∀ n ∈ zs, (Lit.int .i64 n).wf = true) (n0 : Int) (hn1 : -9223372036854775808 ≤ n0) (hn2 : n0 ≤ 9223372036854775807) :
    Calls Try.prog 10 #[.slice A zs.length c, .int .i64 n0] w fun e w' => e = .returned (.bool true) ∧ Below w.heap.size w w' := by
  have K := Lib.hid (mk_row (c := c) (T := 73) hr hm hw)
  have B := Lib.hid ((Below.refl w.heap.size w).alloc (Nat.le_refl _) (.cells #[.slice A zs.length c, .int .i64 0] 73))
  clear hr hw
  go_enter Try.func10, Try.ntmps10
  go_wp2_with fail
  refine (new_any A zs.length c w).mono ?_
  rintro e w1 ⟨rfl, hw1⟩
  rw [← hw1] at K B
  clear hw1 hm
  go_wp2_with fail
  refine mjob_start w w1 14 (by omega) K.out B.out ?_
  intro jA jc l wt w2 hl hlt hS
  obtain ⟨b, hb⟩ : ∃ b, b = w2.heap.size := ⟨_, rfl⟩
  have S3 := Lib.hid (hS b hb)
  clear K B hS hlt
  go_upto_region 3 with fail
  rw [← hb]
  generalize w2.alloc (.cells #[.slice jA l.length jc, .int .i64 wt] 24) = w3 at *
  clear hb
  obtain ⟨L, hL⟩ : ∃ n, n = l.length := ⟨_, rfl⟩
  have HL := Lib.hid hL
  have HPN := Lib.hid (plan_any l jA jc L wt hL w.heap.size (5 + 5 * 14) (by omega) w3 S3.out.val (by have := S3.out.own; rw [← hL] at this; exact this) S3.out.mkr)
  have J := S3.out.box
  rw [← hL] at J hl ⊢
  obtain ⟨j0, j1, jl⟩ := J
  clear hL
  go_wp2_with fail
  refine HPN.out.mono ?_
  rintro e w4 ⟨S, pA, pc, v, rfl, PO, hpl, k4, v4⟩
  have HPL := Lib.hid hpl
  have S4 := Lib.hid (S3.out.step v4 k4)
  obtain ⟨g1, hg1⟩ : ∃ g, g = w4.heap.size := ⟨_, rfl⟩
  have P4 := Lib.hid (PSt.new (st := (S : Int)) (m := w.heap.size) PO (Nat.lt_trans S3.out.lt S3.out.box.lt) g1 hg1 (by rw [hg1]; have := S4.out.lt; have := S4.out.box.lt; omega))
  have BX := (Below.refl w4.heap.size w4).alloc (Nat.le_refl _) (.cells #[.int .i64 (S : Int), .slice pA v.length pc] 27)
  have S5 := Lib.hid (S4.out.below BX)
  have hvl := hpl.len
  rw [← HL.out] at hvl
  clear j0 j1 jl S3 S4 PO BX k4 v4 hpl HPN
  go_upto_region 4 with fail
  rw [← hg1]
  rw [hvl] at P4 S5
  generalize w4.alloc (.cells #[.int .i64 (S : Int), .slice pA L pc] 27) = w5 at *
  clear hg1
  have HVL := Lib.hid hvl
  have hS12 := HPL.out.s12
  have hL14 : L ≤ 14 := hl
  clear hvl hl
  obtain ⟨T, hT⟩ : ∃ T, T = tnT l := ⟨_, rfl⟩
  have hT16 : T ≤ 16 := by rw [hT]; have := (tcI_bd (valid_ok HPL.out.val).2.1 l.length (Nat.le_refl _)).1; unfold tnT; omega
  have HTT := Lib.hid hT
  clear hT
  have HV0 := Lib.hid HPL.out.val14
  obtain ⟨p0, p1, -, pl⟩ := P4.out.box
  by_cases hS0 : S = 0
  · subst hS0
    have HB := Lib.hid S5.out.bel
    go_wp2_with fail
    refine (sane14_any _).mono ?_
    rintro e wz ⟨rfl, BZ⟩
    have HZ := Lib.hid (HB.out.trans (BZ.mono HB.out.size))
    clear BZ
    go_wp2_with fail
    go_ret
    exact ⟨rfl, HZ.out⟩
  · have hSz : ((S : Int) == 0) = false := beq_eq_false_iff_ne.2 (by omega)
    have hSp : (0 : Int) < (S : Int) := by omega
    have hSn : (S : Int) ≠ 0 := by omega
    have b1 := tmod_bd n0 (S : Int) hSp
    have b2 := tmod_bd (n0.tmod (S : Int) + (S : Int)) (S : Int) hSp
    have b3 : 0 ≤ (n0.tmod (S : Int) + (S : Int)).tmod (S : Int) := Int.tmod_nonneg _ (by omega)
    obtain ⟨k, hk⟩ := Int.eq_ofNat_of_zero_le b3
    have hkS : k < S := by omega
    clear hS0
    go_upto_region 6 with fail
    go_cut [1] from 34 to 44 (fun tv wx => tv = .int .i64 ((k : Int) + 1) ∧ Hid (∃ q, wx = w5.drewN q))
    case first =>
      go_quiet (fail)
      go_wp2_with fail
      go_meet
      case rel => exact ⟨by rw [show (1 : Int) + (k : Int) = (k : Int) + 1 by omega], Lib.hid ⟨_, rfl⟩⟩
    case rest =>
    obtain ⟨rfl, HW6⟩ := hcut
    clear b1 b2 b3 hk hSz hSn p0 p1 pl
    have BD := Lib.hid (show Below w5.heap.size w5 wc by obtain ⟨q, e⟩ := HW6.out; rw [e]; exact ⟨rfl, rfl, rfl, Nat.le_refl _, fun _ _ => rfl⟩)
    have S6 := Lib.hid (S5.out.below BD.out)
    have P6 := Lib.hid (P4.out.below BD.out)
    clear S5 P4 BD HW6
    generalize wc = w6 at *
    have HCO := Lib.hid (fun (t : Int) (W : World) (k : IRow W jA l) (q : Row .i64 W W.heap.size pA v) => cont_any l jA jc L wt (S : Int) v pA L pc t HL.out HVL.out.symm W k q (by rw [HVL.out]; unfold maxLen; omega))
    have J := S6.out.box
    rw [← HL.out] at J
    obtain ⟨j0, j1, jl⟩ := J
    obtain ⟨p0, p1, -, pl⟩ := P6.out.box
    go_wp2_with fail
    refine (HCO.out (k : Int) w6 S6.out.irow P6.out.row.1).mono ?_
    rintro e w7 hc
    have hce : contE l wt (S : Int) v (k : Int) = 0 := by unfold contE; rw [if_pos HV0.out, if_neg (by omega)]
    obtain ⟨-, S', t', gs, gt, base, hSS, htt, -, -, rfl, hC⟩ := hc.resolve_left (fun h => h.1 hce)
    obtain rfl : S = S' := by omega
    obtain rfl : k = t' := by omega
    rw [← HTT.out]
    have S7 := Lib.hid (S6.out.below hC.bel)
    have P7 := Lib.hid (P6.out.below hC.bel)
    have HC1 := Lib.hid hC
    have HLT6 := Lib.hid (And.intro S6.out.box.lt P6.out.box.lt)
    clear hc hce hSS htt hC j0 j1 jl p0 p1 pl S6 P6
    have J := S7.out.box
    rw [← HL.out] at J
    obtain ⟨j0, j1, jl⟩ := J
    obtain ⟨p0, p1, -, pl⟩ := P7.out.box
    go_wp2_with fail
    refine (HCO.out ((k : Int) + 1) w7 S7.out.irow P7.out.row.1).mono ?_
    rintro e w8 hc
    have hce : contE l wt (S : Int) v ((k : Int) + 1) = 0 := by unfold contE; rw [if_pos HV0.out, if_neg (by omega)]
    obtain ⟨-, S', t', gc, gd, base2, hSS, htt, -, -, rfl, hC⟩ := hc.resolve_left (fun h => h.1 hce)
    obtain rfl : S = S' := by omega
    obtain rfl : t' = k + 1 := by omega
    rw [← HTT.out]
    have HG := Lib.hid (show ((b < gs ∧ b < gt) ∧ (g1 < gs ∧ g1 < gt) ∧ gs ≠ gt ∧ (gc ≠ gs ∧ gc ≠ gt) ∧ (gd ≠ gs ∧ gd ≠ gt)) from by
      have h1 := HC1.out.le
      have h2 := HC1.out.two.lts
      have h3 := HC1.out.two.ltt
      have h4 := hC.le
      have h5 := HLT6.out
      have h6 := HC1.out.two.ne
      omega)
    have hst : StS w w8 b jA jc l wt (5 + 5 * 14 + 1 + l.length) g1 (S : Int) pA L pc v gs gt gc gd (mS S l.length (cdN v) (rdN l) (k + 1)) (mT S l.length (tnT l) (cdN v) (rdN l) (tnN l) (k + 1)) (mS S l.length (cdN v) (rdN l) (k + 1 + 1)) (mT S l.length (tnT l) (cdN v) (rdN l) (tnN l) (k + 1 + 1)) := by
      have h2 := HC1.out.two.lts
      have h3 := HC1.out.two.ltt
      have h4 := hC.le
      have h7 := hC.two.lts
      have h8 := hC.two.ltt
      refine ⟨(RwO.of HC1.out.two (fun x hx => by rintro (e | e) <;> omega)).below hC.bel, (RwO.of HC1.out.two.symm (fun x hx => by rintro (e | e) <;> omega)).below hC.bel, RwO.of hC.two (fun x hx => by rintro (e | e) <;> omega), RwO.of hC.two.symm (fun x hx => by rintro (e | e) <;> omega), S7.out.below hC.bel, P7.out.below hC.bel, HG.out⟩
    have hF := HPL.out.fitN
    obtain ⟨hqf, hql⟩ := q_facts hF (n := k + 1) (by omega)
    have hb1 := mS_bd hF (n := k + 1) (by omega)
    have hb2 := mT_bd hF (n := k + 1) (by omega)
    have HSL0 : (mS S l.length (cdN v) (rdN l) (k + 1)).length = S := mS_len _
    have HTL0 : (mT S l.length (tnT l) (cdN v) (rdN l) (tnN l) (k + 1)).length = T := by rw [mT_len, HTT.out]
    have HSL2 : (mS S l.length (cdN v) (rdN l) (k + 1 + 1)).length = S := mS_len _
    have HTL2 : (mT S l.length (tnT l) (cdN v) (rdN l) (tnN l) (k + 1 + 1)).length = T := by rw [mT_len, HTT.out]
    have hcc : mS S l.length (cdN v) (rdN l) (k + 1 + 1) = (qAt l.length (rdN l) (mS S l.length (cdN v) (rdN l) (k + 1)) (k + 1)).foldl (putS S (cdN v) (k + 1)) (cutS (mS S l.length (cdN v) (rdN l) (k + 1)) (k + 1)) := rfl
    have hdd : mT S l.length (tnT l) (cdN v) (rdN l) (tnN l) (k + 1 + 1) = (qAt l.length (rdN l) (mS S l.length (cdN v) (rdN l) (k + 1)) (k + 1)).foldl (putT S (cdN v) (tnN l) (k + 1)) (mT S l.length (tnT l) (cdN v) (rdN l) (tnN l) (k + 1)) := rfl
    obtain ⟨M, hM⟩ : ∃ M, M = 5 + 5 * 14 + 1 + l.length := ⟨_, rfl⟩
    rw [← hM] at hst
    obtain ⟨cc, hcc1⟩ : ∃ x, x = mS S l.length (cdN v) (rdN l) (k + 1 + 1) := ⟨_, rfl⟩
    obtain ⟨dd, hdd1⟩ : ∃ x, x = mT S l.length (tnT l) (cdN v) (rdN l) (tnN l) (k + 1 + 1) := ⟨_, rfl⟩
    rw [← hcc1] at hst hcc HSL2
    rw [← hdd1] at hst hdd HTL2
    obtain ⟨ss, hss1⟩ : ∃ x, x = mS S l.length (cdN v) (rdN l) (k + 1) := ⟨_, rfl⟩
    obtain ⟨tt, htt1⟩ : ∃ x, x = mT S l.length (tnT l) (cdN v) (rdN l) (tnN l) (k + 1) := ⟨_, rfl⟩
    rw [← hss1] at hst hcc hdd hqf hql hb1 HSL0
    rw [← htt1] at hst hdd hb2 HTL0
    rw [← HL.out] at hcc hdd hqf hql hb1 hb2
    have hqe : qAt L (rdN l) ss (k + 1) = ss.getD k [] ++ comeL L (rdN l) (k + 1) := by unfold qAt oldL; rw [if_neg (by omega), Nat.add_sub_cancel]
    have HQE := Lib.hid hqe
    have hcut : cutS ss (k + 1) = ss.set k [] := by unfold cutS; rw [if_neg (by omega), Nat.add_sub_cancel]
    rw [hcut] at hcc
    have hbc : ∀ j, ((ss.set k []).getD j []).length ≤ L := by rw [← hcut]; exact cutS_bd hb1
    obtain ⟨Q, hQ⟩ : ∃ Q, Q = qAt L (rdN l) ss (k + 1) := ⟨_, rfl⟩
    rw [← hQ] at hcc hdd hqf hql HQE
    have HST := Lib.hid hst
    have HCC := Lib.hid hcc
    have HDD := Lib.hid hdd
    have HQF := Lib.hid hqf
    have HB1 := Lib.hid hb1
    have HB2 := Lib.hid hb2
    have HBC := Lib.hid hbc
    have HSLN := Lib.hid HSL0
    have HTLN := Lib.hid HTL0
    have HSLC := Lib.hid HSL2
    have HTLD := Lib.hid HTL2
    clear hc hce hSS htt hC hst hcc hdd hqf hb1 hb2 hbc hcc1 hdd1 hss1 htt1 hqe hcut hQ hF HSL0 HTL0 HSL2 HTL2 hM HC1 HLT6 S7 P7 j0 j1 jl p0 p1 pl HCO
    obtain ⟨p0, p1, -, pl⟩ := HST.out.p.box
    have hsn : ((S : Int) != (S : Int)) = false := by simp
    have htn : ((T : Int) != (T : Int)) = false := by simp
    obtain ⟨ra, rc, r1, rR, rN, rm, rB⟩ := HST.out.s.row k (by rw [HSLN.out]; exact hkS)
    have HRB1 := HB1.out k
    obtain ⟨P, hP⟩ : ∃ P, P = ss.getD k [] := ⟨_, rfl⟩
    rw [← hP] at r1 rR rN rm HRB1 HQE
    have HRN := Lib.hid rN
    have HRR := Lib.hid rR
    obtain ⟨pn, hpn⟩ : ∃ x, x = P.length := ⟨_, rfl⟩
    rw [← hpn] at r1 HRB1
    have HPN := Lib.hid hpn
    have hkS2 : (k : Int) < (S : Int) := by omega
    have glt : gs < w8.heap.size := HST.out.s.lt
    obtain ⟨i0, hi0, hz0, hz1, hz2⟩ := info_parts infoIntW
    clear rN rR rm rB hP hpn
    go_upto_region 12 with (first | (at_builtin; refine wpList_app_src rfl (.tmp 82) (.tmp 87) 25 rfl w8.heap.size 3 i0 (.int .i64 0) 1 8 Try.underlying25 hi0 hz0 hz1 hz2 rfl (by decide) (.slice (some ⟨w8.heap.size, 0, none⟩) 0 0) 0 [] rfl (own_empty (Nat.le_refl _)) ra pn rc ((toZ P).map (Value.int .i64)) rfl (fun e => by have := HRN.out e; rw [← HPN.out] at this; exact this) (by rw [List.length_map, toZ_len, ← HPN.out, Nat.mul_one]) (Row.newsO (HRR.out.below ((Below.refl _ _).alloc (Nat.le_refl _) _))) one_cells (by unfold maxLen; omega) (by omega) (by simp) ?_; intro v1 w9 hown hgr; have O9 := Lib.hid (show Own .i64 3 w9 w8.heap.size v1 (toZ P) from by (have h3 := Own.app (zs := []) (ys := toZ P) (n := 0) (m := pn) hown rfl (by rw [toZ_len]; exact HPN.out); simpa using h3)); have B9 := Lib.hid (((Below.refl w8.heap.size w8).alloc (Nat.le_refl _) (.cells #[] 3)).grown hgr (by simp) (fun k e => by simp [Value.ownBlock] at e; omega)); clear hown hgr))
    clear r1 p0 p1 pl hsn htn glt
    have S9 := Lib.hid (HST.out.below B9.out)
    have J := S9.out.j.box
    rw [← HL.out] at J
    obtain ⟨j0, j1, jl⟩ := J
    go_wp2_with fail
    clear j0 j1 jl
    have O9' := Lib.hid (show Own .i64 3 w9 w8.heap.size v1 (toZ (P ++ comeL 0 (rdN l) (k + 1))) by rw [show comeL 0 (rdN l) (k + 1) = [] from rfl, List.append_nil]; exact O9.out)
    go_loopw [14, 92] (fun mv iv wr => ∃ x : Nat, x ≤ L ∧ iv = .int .i64 (x : Int) ∧ Hid (Own .i64 3 wr w8.heap.size mv (toZ (P ++ comeL x (rdN l) (k + 1)))) ∧ Hid (Below w8.heap.size w8 wr)) (fun _ iv _ => L - (intOf iv).toNat)
    case atStart => exact ⟨0, by omega, rfl, O9', B9⟩
    case round =>
      clear O9 O9' B9 S9
      obtain ⟨x, hx, rfl, OM, BM⟩ := hrel
      by_cases hlx : x < L
      · have hxL : x < l.length := by rw [← HL.out]; exact hlx
        have SR := Lib.hid (HST.out.below BM.out)
        obtain ⟨aA, rfl, CE⟩ := SR.out.j.irow.at_ x hxL
        obtain ⟨c0, c1, c2, c3⟩ := CE.spelt
        have hxi : (x : Int) < (L : Int) := by omega
        obtain ⟨⟨tv, bv, rv, lv⟩, hp4⟩ : ∃ p, p = l.getD x it0 := ⟨_, rfl⟩
        have hrv : rv = (rdN l x : Int) := by rw [← (HPL.out.rd hxL).1]; unfold rnd; rw [← hp4]
        rw [← hp4] at c0 c1 c2 c3
        have HCS := Lib.hid (comeL_succ (rdN l) (k + 1) x)
        obtain ⟨R, hR⟩ : ∃ R, R = rdN l x := ⟨_, rfl⟩
        rw [← hR] at hrv HCS
        subst hrv
        have BX := (Below.refl wr.heap.size wr).alloc (Nat.le_refl _) (.cells #[.int .i64 tv, .int .i64 bv, .int .i64 (R : Int), .int .i64 lv] 29)
        have I1 := Lib.hid (IPl.new (w := wr) (p := (tv, bv, (R : Int), lv)) (T := 29) wr.heap.size rfl)
        have OM1 := Lib.hid (OM.out.below BX)
        have BM1 := Lib.hid (BM.out.trans (BX.mono BM.out.size))
        obtain ⟨ib, hib⟩ : ∃ x, x = wr.heap.size := ⟨_, rfl⟩
        clear hp4 hR CE BX SR OM BM
        go_upto_region 15 with fail
        clear c0 c1 c2 c3
        rw [← hib] at I1 ⊢
        generalize wr.alloc (.cells #[.int .i64 tv, .int .i64 bv, .int .i64 (R : Int), .int .i64 lv] 29) = w10 at *
        clear hib
        have i2 := I1.out.c2
        have HLN := Lib.hid (show (toZ (P ++ comeL x (rdN l) (k + 1))).length + 1 ≤ 1000000000 by
          rw [toZ_len, List.length_append, ← HPN.out]
          have h1 : (comeL x (rdN l) (k + 1)).length ≤ x := by unfold comeL; have := List.length_filter_le (fun y => rdN l y == k + 1) (List.range x); rw [List.length_range] at this; exact this
          omega)
        by_cases hRk : R = k + 1
        · have hRi : (((R : Int)) == ((k : Int) + 1)) = true := by rw [hRk]; simp
          rw [if_pos hRk] at HCS
          clear hRk
          go_wp2_with (first | (at_builtin; refine wpList_appI _ rfl (.tmp 101) (.tmp 103) rfl w8.heap.size _ (toZ (P ++ comeL x (rdN l) (k + 1))) rfl (OM1.out.alloc _) (x : Int) w10 rfl _ rfl 1 rfl HLN.out (le_allocW BM1.out.size) ?_; intro v5 w11 A5; have O11 := Lib.hid (show Own .i64 3 w11 w8.heap.size v5 (toZ (P ++ comeL (x + 1) (rdN l) (k + 1))) from by (have h3 := A5.1; rw [HCS.out, ← List.append_assoc]; unfold toZ at h3 ⊢; rw [List.map_append (l₂ := [x])]; exact h3)); have B11 := Lib.hid (A5.below BM1.out BM1.out.size OM1.out); clear A5))
          go_roundw
          case rel => exact ⟨x + 1, by omega, by go_num, O11, B11⟩
          case measure => simp [intOf]; omega
        · have hRi : (((R : Int)) == ((k : Int) + 1)) = false := beq_eq_false_iff_ne.2 (by omega)
          rw [if_neg hRk, List.append_nil] at HCS
          clear hRk
          go_wp2_with fail
          go_roundw
          case rel => exact ⟨x + 1, by omega, by go_num, by rw [HCS.out]; exact OM1, BM1⟩
          case measure => simp [intOf]; omega
      · have hxL : x = L := by omega
        have hxi : ¬ (x : Int) < (L : Int) := by omega
        have hom := OM.out
        rw [hxL, ← HQE.out] at hom
        have OQ := Lib.hid hom
        have SR := Lib.hid (HST.out.below BM.out)
        have BW := Lib.hid BM.out
        clear hom hxL OM BM HRN HRR
        obtain ⟨mA, mc, hmv, -, -, hmm, -⟩ := OQ.out.slice
        obtain ⟨qn, hqn⟩ : ∃ n, n = (toZ Q).length := ⟨_, rfl⟩
        rw [← hqn] at hmv
        subst hmv
        have HQN := Lib.hid (show qn = Q.length by rw [hqn, toZ_len])
        have hqL : qn ≤ L := by rw [HQN.out]; exact hql
        obtain ⟨ra, rc, r1, -⟩ := SR.out.s.row k (by rw [HSLN.out]; exact hkS)
        have fz := SR.out.s.fz k (by rw [HSLN.out]; exact hkS)
        have S18 := Lib.hid (show StS w (wr.setCell ⟨gs, k, none⟩ (.slice none 0 0)) b jA jc l wt M g1 (S : Int) pA L pc v gs gt gc gd (ss.set k []) tt cc dd from SR.out.putS (a := none) (c := 0) (p := []) Row.nil (fun _ => ⟨rfl, rfl⟩) (by decide) (fun y hy => by cases hy) (by rw [HSLN.out]; exact hkS))
        have HG8 := Lib.hid (show gs < w8.heap.size ∧ gt < w8.heap.size from ⟨HST.out.s.lt, HST.out.t.lt⟩)
        have OQ18 := Lib.hid (OQ.out.setN (p := ⟨gs, k, none⟩) (fun g hg => by have h1 := (own_block OQ.out hg).1; have h2 := HG8.out.1; show g ≠ gs; omega) (.slice none 0 0))
        have SZ18 := Lib.hid (show w8.heap.size ≤ (wr.setCell ⟨gs, k, none⟩ (.slice none 0 0)).heap.size by rw [World.size_setCell]; exact BW.out.size)
        clear hqn hmm SR BW OQ HST hql
        go_upto_region 19 with fail
        generalize wr.setCell ⟨gs, k, none⟩ (.slice none 0 0) = w12 at *
        clear r1 fz
        go_wp2_with fail
        clear hxi
        go_loopw [112] (fun iv wr => ∃ i : Nat, i ≤ qn ∧ iv = .int .i64 (i : Int) ∧ Hid (StS w wr b jA jc l wt M g1 (S : Int) pA L pc v gs gt gc gd ((Q.take i).foldl (putS S (cdN v) (k + 1)) (ss.set k [])) ((Q.take i).foldl (putT S (cdN v) (tnN l) (k + 1)) tt) cc dd) ∧ Hid (Own .i64 3 wr w8.heap.size (.slice mA qn mc) (toZ Q)) ∧ Hid (w8.heap.size ≤ wr.heap.size)) (fun iv _ => qn - (intOf iv).toNat)
        case atStart => exact ⟨0, by omega, rfl, S18, OQ18, SZ18⟩
        case round =>
          clear S18 OQ18 SZ18
          obtain ⟨i, hi, rfl, SX, OI, SZ⟩ := hrel
          by_cases hli : i < qn
          · have hiq : i < Q.length := by rw [← HQN.out]; exact hli
            have hoi := OI.out
            obtain ⟨A', c', ev, QR, -, -, -⟩ := hoi.slice
            obtain rfl : mA = A' := by injection ev
            obtain ⟨qad, rfl, qlt, ci⟩ := QR i (by rw [toZ_len]; exact hiq)
            rw [toZ_at Q hiq] at ci
            have HTS := Lib.hid (take_succL hiq)
            obtain ⟨hxL, hxr⟩ := HQF.out _ (getD_memN hiq)
            obtain ⟨x, hx⟩ : ∃ x, x = Q.getD i 0 := ⟨_, rfl⟩
            rw [← hx] at ci HTS hxL hxr
            have hxl : x < l.length := by rw [← HL.out]; exact hxL
            have HSI := Lib.hid (show ((Q.take i).foldl (putS S (cdN v) (k + 1)) (ss.set k [])).length = S by rw [foldS_len, List.length_set, HSLN.out])
            have HTI := Lib.hid (show ((Q.take i).foldl (putT S (cdN v) (tnN l) (k + 1)) tt).length = T by rw [foldT_len, HTLN.out])
            have htk : (Q.take i).length ≤ 14 := by rw [List.length_take]; omega
            have HBS := Lib.hid (show ∀ j, (((Q.take i).foldl (putS S (cdN v) (k + 1)) (ss.set k [])).getD j []).length ≤ 28 from fun j => by have := foldS_bd (S := S) (cd := cdN v) (t := k + 1) (Q.take i) L _ HBC.out j; omega)
            have HBT := Lib.hid (show ∀ j, (((Q.take i).foldl (putT S (cdN v) (tnN l) (k + 1)) tt).getD j []).length ≤ 28 from fun j => by have := foldT_bd (S := S) (cd := cdN v) (tn := tnN l) (t := k + 1) (Q.take i) L _ HB2.out j; omega)
            obtain ⟨si, hsi⟩ : ∃ y, y = (Q.take i).foldl (putS S (cdN v) (k + 1)) (ss.set k []) := ⟨_, rfl⟩
            obtain ⟨ti, hti⟩ : ∃ y, y = (Q.take i).foldl (putT S (cdN v) (tnN l) (k + 1)) tt := ⟨_, rfl⟩
            rw [← hsi] at SX HSI HBS
            rw [← hti] at SX HTI HBT
            have HSIE := Lib.hid hsi
            have HTIE := Lib.hid hti
            obtain ⟨aA, rfl, CE⟩ := SX.out.j.irow.at_ x hxl
            obtain ⟨c0, -, c2, -⟩ := CE.spelt
            rw [show (l.getD x it0).1 = (tnN l x : Int) from (HPL.out.tn hxl).1] at c0
            rw [show (l.getD x it0).2.2.1 = (rdN l x : Int) from (HPL.out.rd hxl).1] at c2
            obtain ⟨pad, rfl, plt, cp⟩ := SX.out.p.row.1 x (by rw [HVL.out]; exact hxL)
            rw [(HPL.out.cd hxl).1] at cp
            have HREAL := Lib.hid (show realL (cdN v x : Int) (rdN l x : Int) = toZ (blM (cdN v x) (rdN l x) 12) ∧ realE (cdN v x : Int) (rdN l x : Int) = 0 by
              have := HPL.out.real hxl
              rw [(HPL.out.cd hxl).1, (HPL.out.rd hxl).1, blN_toZ] at this
              exact this)
            have HFD := Lib.hid (firstG_dst (t := k + 1) hS12 (HPL.out.cd hxl).2.1 hxr (by omega))
            have HDB := Lib.hid (dst_bd (S := S) (K := cdN v x) (t := k + 1) (by omega))
            have HPS0 := Lib.hid (show putS S (cdN v) (k + 1) si x = if dst S (cdN v x) (k + 1) < S then si.set (dst S (cdN v x) (k + 1)) (si.getD (dst S (cdN v x) (k + 1)) [] ++ [x]) else si from rfl)
            have HPT0 := Lib.hid (show putT S (cdN v) (tnN l) (k + 1) ti x = if dst S (cdN v x) (k + 1) < S then ti else ti.set (tnN l x) (ti.getD (tnN l x) [] ++ [x]) from rfl)
            have HTNX := Lib.hid (show tnN l x < T by rw [HTT.out]; exact (HPL.out.tn hxl).2)
            obtain ⟨K, hK⟩ : ∃ y, y = cdN v x := ⟨_, rfl⟩
            obtain ⟨R, hR⟩ : ∃ y, y = rdN l x := ⟨_, rfl⟩
            obtain ⟨tx, htx⟩ : ∃ y, y = tnN l x := ⟨_, rfl⟩
            rw [← hK] at cp HREAL HFD HDB HPS0 HPT0
            rw [← hR] at c2 HREAL HFD
            rw [← htx] at c0 HPT0 HTNX
            have hxi : (x : Int) < (L : Int) := by omega
            have hx0 : ¬ (x : Int) < 0 := by omega
            have hxg : ¬ (L : Int) ≤ (x : Int) := by omega
            have htT := HTNX.out
            have htg : ¬ (T : Int) ≤ (tx : Int) := by omega
            have hii : (i : Int) < (qn : Int) := by omega
            have J := SX.out.j.box
            rw [← HL.out] at J
            obtain ⟨j0, j1, jl⟩ := J
            obtain ⟨p0, p1, -, pl⟩ := SX.out.p.box
            have ltc := lt_of_cell c2
            have ltp := lt_of_cell cp
            have ltt := lt_of_cell c0
            clear hsi hti hx ev hoi QR CE hK hR htx htk hxr
            go_upto_region 24 with fail
            clear ci
            have HPSS := Lib.hid (fun (X : World) (hX : Below wr.heap.size wr X) => (show X.cell? ⟨g1, 1, none⟩ = some (.slice (some pad) L pc) ∧ X.cell? ⟨b, 0, none⟩ = some (.slice (some aA) L jc) ∧ X.cell? (pad.add x) = some (.int .i64 (K : Int)) ∧ X.cell? ⟨(aA.add (x * 4)).block, (aA.add (x * 4)).off + 2, none⟩ = some (.int .i64 (R : Int)) from
              ⟨(hX.cell (p := ⟨g1, 1, none⟩) pl).trans p1, (hX.cell (p := ⟨b, 0, none⟩) jl).trans j0, (hX.cell ltp).trans cp, (hX.cell ltc).trans c2⟩))
            have HC00 := Lib.hid (And.intro ltt c0)
            clear j0 j1 jl p0 p1 pl c0 c2 cp ltc ltp ltt
            obtain ⟨y0, e0⟩ : ∃ q, q = wr.drew := ⟨_, rfl⟩
            have K0 := Lib.hid (show Below wr.heap.size wr y0 from by rw [e0]; exact (Below.refl _ _).drew)
            have F0 := HPSS.out y0 K0.out
            have HE0 := Lib.hid e0
            clear e0
            refine AnyT.begin_at tlN (fun X => X.cell? ⟨g1, 1, none⟩ = some (.slice (some pad) L pc) ∧ X.cell? ⟨b, 0, none⟩ = some (.slice (some aA) L jc) ∧ X.cell? (pad.add x) = some (.int .i64 (K : Int)) ∧ X.cell? ⟨(aA.add (x * 4)).block, (aA.add (x * 4)).off + 2, none⟩ = some (.int .i64 (R : Int))) (by kernel_rfl) HE0.out F0 ?_
            clear F0
            intro F0
-- TAKES R1
            refine AnyT.takeD (i := 0) (d := some 137) (v := .pointer (some ⟨g1, 1, none⟩)) rfl rfl (by kernel_rfl) (by kernel_rfl) (by kernel_rfl) (by kernel_rfl) (fun _ _ _ h => h) (Or.inl ⟨by rfl, fun wz _ => by go_simp⟩) F0 ?_
            simp only [Act.put, List.setIfInBounds_toArray, List.set_cons_zero, List.set_cons_succ]
            refine AnyT.takeD (i := 1) (d := some 138) (v := .slice (some pad) L pc) rfl rfl (by kernel_rfl) (by kernel_rfl) (by kernel_rfl) (by kernel_rfl) (fun _ _ _ h => h) (Or.inl ⟨by rfl, fun wz hz => by obtain ⟨z0, z1, z2, z3⟩ := hz; go_simp⟩) F0 ?_
            simp only [Act.put, List.setIfInBounds_toArray, List.set_cons_zero, List.set_cons_succ]
            refine AnyT.takeD (i := 2) (d := some 139) (v := .int .i64 (x : Int)) rfl rfl (by kernel_rfl) (by kernel_rfl) (by kernel_rfl) (by kernel_rfl) (fun _ _ _ h => h) (Or.inl ⟨by rfl, fun wz _ => by go_simp⟩) F0 ?_
            simp only [Act.put, List.setIfInBounds_toArray, List.set_cons_zero, List.set_cons_succ]
            refine AnyT.takeD (i := 3) (d := some 140) (v := .pointer (some (pad.add x))) rfl rfl (by kernel_rfl) (by kernel_rfl) (by kernel_rfl) (by kernel_rfl) (fun _ _ _ h => h) (Or.inl ⟨by rfl, fun wz _ => by go_simp⟩) F0 ?_
            simp only [Act.put, List.setIfInBounds_toArray, List.set_cons_zero, List.set_cons_succ]
            refine AnyT.takeD (i := 4) (d := some 141) (v := .int .i64 (K : Int)) rfl rfl (by kernel_rfl) (by kernel_rfl) (by kernel_rfl) (by kernel_rfl) (fun _ _ _ h => h) (Or.inl ⟨by rfl, fun wz hz => by obtain ⟨z0, z1, z2, z3⟩ := hz; go_simp⟩) F0 ?_
            simp only [Act.put, List.setIfInBounds_toArray, List.set_cons_zero, List.set_cons_succ]
            refine AnyT.takeD (i := 5) (d := some 142) (v := .pointer (some ⟨b, 0, none⟩)) rfl rfl (by kernel_rfl) (by kernel_rfl) (by kernel_rfl) (by kernel_rfl) (fun _ _ _ h => h) (Or.inl ⟨by rfl, fun wz _ => by go_simp⟩) F0 ?_
            simp only [Act.put, List.setIfInBounds_toArray, List.set_cons_zero, List.set_cons_succ]
            refine AnyT.takeD (i := 6) (d := some 143) (v := .slice (some aA) L jc) rfl rfl (by kernel_rfl) (by kernel_rfl) (by kernel_rfl) (by kernel_rfl) (fun _ _ _ h => h) (Or.inl ⟨by rfl, fun wz hz => by obtain ⟨z0, z1, z2, z3⟩ := hz; go_simp⟩) F0 ?_
            simp only [Act.put, List.setIfInBounds_toArray, List.set_cons_zero, List.set_cons_succ]
            refine AnyT.takeD (i := 7) (d := some 144) (v := .int .i64 (x : Int)) rfl rfl (by kernel_rfl) (by kernel_rfl) (by kernel_rfl) (by kernel_rfl) (fun _ _ _ h => h) (Or.inl ⟨by rfl, fun wz _ => by go_simp⟩) F0 ?_
            simp only [Act.put, List.setIfInBounds_toArray, List.set_cons_zero, List.set_cons_succ]
            refine AnyT.takeD (i := 8) (d := some 145) (v := .pointer (some (aA.add (x * 4)))) rfl rfl (by kernel_rfl) (by kernel_rfl) (by kernel_rfl) (by kernel_rfl) (fun _ _ _ h => h) (Or.inl ⟨by rfl, fun wz _ => by go_simp⟩) F0 ?_
            simp only [Act.put, List.setIfInBounds_toArray, List.set_cons_zero, List.set_cons_succ]
            refine AnyT.takeD (i := 9) (d := some 146) (v := .pointer (some ⟨(aA.add (x * 4)).block, (aA.add (x * 4)).off + 2, none⟩)) rfl rfl (by kernel_rfl) (by kernel_rfl) (by kernel_rfl) (by kernel_rfl) (fun _ _ _ h => h) (Or.inl ⟨by rfl, fun wz _ => by go_simp⟩) F0 ?_
            simp only [Act.put, List.setIfInBounds_toArray, List.set_cons_zero, List.set_cons_succ]
            refine AnyT.takeD (i := 10) (d := some 147) (v := .int .i64 (R : Int)) rfl rfl (by kernel_rfl) (by kernel_rfl) (by kernel_rfl) (by kernel_rfl) (fun _ _ _ h => h) (Or.inl ⟨by rfl, fun wz hz => by obtain ⟨z0, z1, z2, z3⟩ := hz; go_simp⟩) F0 ?_
            simp only [Act.put, List.setIfInBounds_toArray, List.set_cons_zero, List.set_cons_succ]
            -- TAKEN R1
            refine AnyT.branch (rs := [11]) (by kernel_rfl) (by simp) ?_
            refine all_cons (?_) all_nil
            refine AnyT.enter (i := 11) (d := some 148) (f := 29) (args := #[.int .i64 (K : Int), .int .i64 (R : Int)]) rfl rfl rfl (by go_simp) (rreal_any (K : Int) (R : Int) y0) ?_
            rintro e y1 ⟨zv, rfl, OZ, BZ⟩
            rw [HREAL.out.1] at OZ
            rw [HREAL.out.2]
            have K1 := Lib.hid (K0.out.trans (BZ.mono K0.out.size))
            have F1 := HPSS.out y1 K1.out
            have HOZ := Lib.hid OZ
            refine ⟨_, rfl, fun _ => F1, ?_⟩
            clear F0 OZ BZ
            simp only [Act.put, List.setIfInBounds_toArray, List.set_cons_zero, List.set_cons_succ]
-- TAKES R2
            refine AnyT.takeD (i := 12) (d := some 136) (v := .tuple #[zv, .int .i64 0]) rfl rfl (by kernel_rfl) (by kernel_rfl) (by kernel_rfl) (by kernel_rfl) (fun _ _ _ h => h) (Or.inl ⟨by rfl, fun wz _ => by go_simp⟩) F1 ?_
            simp only [Act.put, List.setIfInBounds_toArray, List.set_cons_zero, List.set_cons_succ]
            refine AnyT.takeD (i := 13) (d := some 149) (v := zv) rfl rfl (by kernel_rfl) (by kernel_rfl) (by kernel_rfl) (by kernel_rfl) (fun _ _ _ h => h) (Or.inl ⟨by rfl, fun wz _ => by go_simp⟩) F1 ?_
            simp only [Act.put, List.setIfInBounds_toArray, List.set_cons_zero, List.set_cons_succ]
            refine AnyT.takeD (i := 14) (d := some 150) (v := .int .i64 0) rfl rfl (by kernel_rfl) (by kernel_rfl) (by kernel_rfl) (by kernel_rfl) (fun _ _ _ h => h) (Or.inl ⟨by rfl, fun wz _ => by go_simp⟩) F1 ?_
            simp only [Act.put, List.setIfInBounds_toArray, List.set_cons_zero, List.set_cons_succ]
            refine AnyT.takeD (i := 15) (d := some 19) (v := zv) rfl rfl (by kernel_rfl) (by kernel_rfl) (by kernel_rfl) (by kernel_rfl) (fun _ _ _ h => h) (Or.inl ⟨by rfl, fun wz _ => by go_simp⟩) F1 ?_
            simp only [Act.put, List.setIfInBounds_toArray, List.set_cons_zero, List.set_cons_succ]
            refine AnyT.takeD (i := 16) (d := some 20) (v := .int .i64 0) rfl rfl (by kernel_rfl) (by kernel_rfl) (by kernel_rfl) (by kernel_rfl) (fun _ _ _ h => h) (Or.inl ⟨by rfl, fun wz _ => by go_simp⟩) F1 ?_
            simp only [Act.put, List.setIfInBounds_toArray, List.set_cons_zero, List.set_cons_succ]
            -- TAKEN R2
            refine AnyT.done_ (by kernel_rfl) ?_ _
            have SX := Lib.hid (SX.out.below K1.out)
            have OI := Lib.hid (OI.out.below K1.out)
            have SZ := Lib.hid (Nat.le_trans SZ.out K1.out.size)
            have HC0 := Lib.hid ((K1.out.cell HC00.out.1).trans HC00.out.2)
            have HCL := Lib.hid (Nat.lt_of_lt_of_le HC00.out.1 K1.out.size)
            obtain ⟨zA, zc, ez, ZR, -, -, -⟩ := HOZ.out.slice
            obtain ⟨Z, hZ⟩ : ∃ Z, Z = blM K R 12 := ⟨_, rfl⟩
            rw [← hZ] at ez ZR HFD
            obtain ⟨zn, hzn⟩ : ∃ zn, zn = (toZ Z).length := ⟨_, rfl⟩
            rw [← hzn] at ez
            subst ez
            have HZN := Lib.hid (show zn = Z.length by rw [hzn, toZ_len])
            have hzn12 : zn ≤ 12 := by rw [HZN.out, hZ]; exact blM_len K R 12
            have HZR := Lib.hid ZR
            clear F1 HPSS HE0 K0 K1 HOZ HC00 hZ hzn ZR HREAL
            go_wp2_with fail
            go_loopw [21, 22] (fun tv iv wi => ∃ j : Nat, j ≤ zn ∧ iv = .int .i64 ((j : Int) - 1) ∧ tv = .int .i64 (firstG (k + 1) (Z.drop j)) ∧ Hid (wi = y1)) (fun _ iv _ => (intOf iv + 1).toNat)
            case atStart => exact ⟨zn, Nat.le_refl _, rfl, by rw [HZN.out, List.drop_length]; rfl, Lib.hid rfl⟩
            case round =>
              obtain ⟨j, hj, rfl, rfl, HW⟩ := hrel
              cases j with
              | zero =>
                have hw := HW.out
                rw [hw]
                clear hw HW
                generalize y1 = wr at *
                have hneg : ¬ (0 : Int) ≤ -1 := by omega
                rw [List.drop_zero, HFD.out]
                clear hneg HZR HZN hzn12 hj
                obtain ⟨D, hD⟩ : ∃ D, D = dst S K (k + 1) := ⟨_, rfl⟩
                rw [← hD] at HPS0 HPT0 HDB ⊢
                clear HFD hD
                by_cases hDS : D < S
                · have HPS := Lib.hid (show putS S (cdN v) (k + 1) si x = si.set D (si.getD D [] ++ [x]) by rw [HPS0.out, if_pos hDS])
                  have HPT := Lib.hid (show putT S (cdN v) (tnN l) (k + 1) ti x = ti by rw [HPT0.out, if_pos hDS])
                  rw [if_pos hDS]
                  have hD0 : ¬ (D : Int) < 0 := by omega
                  have hDg : ¬ (S : Int) ≤ (D : Int) := by omega
                  have hDi : (D : Int) < (S : Int) := by omega
                  obtain ⟨ra, rc, r1, rR, rN, rm, rB⟩ := SX.out.s.row D (by rw [HSI.out]; exact hDS)
                  have HF1 := Lib.hid (SX.out.s.fz D (by rw [HSI.out]; exact hDS))
                  have HLG := Lib.hid SX.out.s.lt
                  have HRB := Lib.hid (HBS.out D)
                  obtain ⟨P1, hP1⟩ : ∃ P, P = si.getD D [] := ⟨_, rfl⟩
                  rw [← hP1] at r1 rR rN HPS HRB
                  have HRN := Lib.hid rN
                  have HRR := Lib.hid rR
                  obtain ⟨rn, hrn⟩ : ∃ n, n = P1.length := ⟨_, rfl⟩
                  rw [← hrn] at r1 HRN
                  have HPN1 := Lib.hid hrn
                  have HR1 := Lib.hid r1
                  clear rN rR rm rB hP1 hrn r1 HPS0 HPT0 HC0 HCL HBS HBT
                  have glt := HLG.out
                  have r1 := HR1.out
                  have hrn28 : rn ≤ 28 := by rw [HPN1.out]; exact HRB.out
                  have HLNP := Lib.hid (show (toZ P1).length + 1 ≤ 1000000000 by rw [toZ_len, ← HPN1.out]; omega)
                  go_wp2_with (first
                    | (at_builtin; refine wpList_app_src rfl (.tmp 200) (.tmp 204) 25 rfl wr.heap.size 3 i0 (.int .i64 0) 1 8 Try.underlying25 hi0 hz0 hz1 hz2 rfl (by decide) (.slice (some ⟨wr.heap.size, 0, none⟩) 0 0) 0 [] rfl (own_empty (Nat.le_refl _)) ra rn rc ((toZ P1).map (Value.int .i64)) rfl HRN.out (by rw [List.length_map, toZ_len, ← HPN1.out, Nat.mul_one]) (Row.newsO (HRR.out.below ((Below.refl _ _).alloc (Nat.le_refl _) _))) one_cells (by unfold maxLen; omega) (by omega) (by simp) ?_; intro v1 q1 hown hgr; have OP := Lib.hid (show Own .i64 3 q1 wr.heap.size v1 (toZ P1) from by (have h3 := Own.app (zs := []) (ys := toZ P1) (n := 0) (m := rn) hown rfl (by rw [toZ_len]; exact HPN1.out); simpa using h3)); have HB1 := Lib.hid (((Below.refl wr.heap.size wr).alloc (Nat.le_refl _) (.cells #[] 3)).grown hgr (by simp) (fun k e => by simp [Value.ownBlock] at e; omega)); clear hown hgr r1 glt)
                    | (at_builtin; refine wpList_appI _ rfl (.tmp 205) (.tmp 207) rfl wr.heap.size _ (toZ P1) rfl (OP.out.alloc _) (x : Int) q1 rfl _ rfl 1 rfl HLNP.out (le_allocW HB1.out.size) ?_; intro v5 q9 A5; have HB9 := Lib.hid (A5.below HB1.out HB1.out.size OP.out); have hown := A5.1; obtain ⟨A2, c2, ev2, R2, -, hm2, hge2⟩ := hown.slice; obtain ⟨n2, hn2⟩ : ∃ n, n = (toZ P1 ++ [(x : Int)]).length := ⟨_, rfl⟩; rw [← hn2] at ev2; subst ev2; have HROW := Lib.hid (And.intro R2 (And.intro hm2 hge2)); have HN2 := Lib.hid hn2; have y1 := (HB9.out.cell (p := ⟨gs, D, none⟩) HLG.out).trans HR1.out; have y2 : q9.frozen? ⟨gs, D, none⟩ = false := (HB9.out.frozen (p := ⟨gs, D, none⟩) HLG.out).trans HF1.out; clear A5 hown R2 hm2 hge2 hn2))
                  clear y1 y2
                  have HNEW := Lib.hid (show StS w (q9.setCell ⟨gs, D, none⟩ (.slice A2 n2 c2)) b (some aA) jc l wt M g1 (S : Int) (some pad) L pc v gs gt gc gd (si.set D (P1 ++ [x])) ti cc dd by
                    obtain ⟨R2, hm2, hge2⟩ := HROW.out
                    have e1 : toZ P1 ++ [(x : Int)] = toZ (P1 ++ [x]) := by unfold toZ; rw [List.map_append]; rfl
                    have e2 : n2 = (P1 ++ [x]).length := by rw [HN2.out, e1, toZ_len]
                    rw [e1] at R2 hge2 hm2
                    rw [toZ_len] at hge2 hm2
                    rw [e2]
                    refine (SX.out.below HB9.out).putS R2 (fun e => ?_) hm2 (fun y hy => ?_) (by rw [HSI.out]; exact hDS)
                    · obtain ⟨g, hg, _⟩ := hge2 (by simp)
                      rw [hg] at e; cases e
                    · obtain ⟨g, hg, hg1, _⟩ := hge2 (by simp)
                      rw [hg] at hy; injection hy with hy; subst hy
                      have h1 := SX.out.s.lt; have h2 := SX.out.t.lt
                      rintro (e | e)
                      · have e3 : g = gs := e; omega
                      · have e3 : g = gt := e; omega)
                  have HONE := Lib.hid ((OI.out.below HB9.out).setN (p := ⟨gs, D, none⟩) (fun g hg => by have h1 := (own_block OI.out hg).1; have := HG8.out; show g ≠ gs; omega) (.slice A2 n2 c2))
                  have HZ9 := Lib.hid (show w8.heap.size ≤ (q9.setCell ⟨gs, D, none⟩ (.slice A2 n2 c2)).heap.size by rw [World.size_setCell]; exact Nat.le_trans SZ.out HB9.out.size)
                  go_roundw
                  case rel => exact ⟨i + 1, by omega, by go_num, by rw [HTS.out, List.foldl_append, List.foldl_append, List.foldl_cons, List.foldl_cons, List.foldl_nil, List.foldl_nil, ← HSIE.out, ← HTIE.out, HPS.out, HPT.out]; exact HNEW, HONE, HZ9⟩
                  case measure => simp [intOf]; omega
                · have hDS2 : D = S := by have := HDB.out; omega
                  have HPS := Lib.hid (show putS S (cdN v) (k + 1) si x = si by rw [HPS0.out, if_neg hDS])
                  have HPT := Lib.hid (show putT S (cdN v) (tnN l) (k + 1) ti x = ti.set tx (ti.getD tx [] ++ [x]) by rw [HPT0.out, if_neg hDS])
                  rw [if_neg hDS]
                  clear HPS0 HPT0 hDS hDS2 HDB
                  clear D
                  obtain ⟨D, hD⟩ : ∃ D, D = tx := ⟨_, rfl⟩
                  rw [← hD] at HPT HC0 htT htg
                  clear hD
                  have hDT : D < T := htT
                  have hDi : (D : Int) < (T : Int) := by omega
                  obtain ⟨ra, rc, r1, rR, rN, rm, rB⟩ := SX.out.t.row D (by rw [HTI.out]; exact hDT)
                  have HF1 := Lib.hid (SX.out.t.fz D (by rw [HTI.out]; exact hDT))
                  have HLG := Lib.hid SX.out.t.lt
                  have HRB := Lib.hid (HBT.out D)
                  have J := SX.out.j.box
                  rw [← HL.out] at J
                  have HJ0 := Lib.hid J.c0
                  have HJL := Lib.hid J.lt
                  obtain ⟨P1, hP1⟩ : ∃ P, P = ti.getD D [] := ⟨_, rfl⟩
                  rw [← hP1] at r1 rR rN HPT HRB
                  have HRN := Lib.hid rN
                  have HRR := Lib.hid rR
                  obtain ⟨rn, hrn⟩ : ∃ n, n = P1.length := ⟨_, rfl⟩
                  rw [← hrn] at r1 HRN
                  have HPN1 := Lib.hid hrn
                  have HR1 := Lib.hid r1
                  clear rN rR rm rB hP1 hrn r1 J HBS HBT
                  go_upto_region 34 with fail
-- TAKES G34
                  obtain ⟨q0, e0⟩ : ∃ q, q = wr.drew := ⟨_, rfl⟩
                  have HB0 := Lib.hid (show Below wr.heap.size wr q0 by rw [e0]; exact ⟨rfl, rfl, rfl, Nat.le_refl _, fun _ _ => rfl⟩)
                  have F0 : q0.cell? ⟨gt, D, none⟩ = some (.slice ra rn rc) ∧ q0.cell? ⟨b, 0, none⟩ = some (.slice (some aA) L jc) ∧ q0.cell? (aA.add (x * 4)) = some (.int .i64 (D : Int)) := ⟨(HB0.out.cell (p := ⟨gt, D, none⟩) HLG.out).trans HR1.out, ((HB0.out.cell (p := ⟨b, 0, none⟩) HJL.out).trans HJ0.out), ((HB0.out.cell (p := (aA.add (x * 4))) HCL.out).trans HC0.out)⟩
                  have HE0 := Lib.hid e0
                  clear e0
                  refine AnyT.begin_at (tlGe 22) (fun X => X.cell? ⟨gt, D, none⟩ = some (.slice ra rn rc) ∧ X.cell? ⟨b, 0, none⟩ = some (.slice (some aA) L jc) ∧ X.cell? (aA.add (x * 4)) = some (.int .i64 (D : Int))) (by kernel_rfl) HE0.out F0 ?_
                  clear F0
                  intro F0
                  refine AnyT.takeD (i := 0) (d := some 172) (v := .slice (some ⟨gt, 0, none⟩) T T) rfl rfl (by kernel_rfl) (by kernel_rfl) (by kernel_rfl) (by kernel_rfl) (fun _ _ _ h => h) (Or.inl ⟨by rfl, fun wz _ => by go_simp⟩) F0 ?_
                  simp only [Act.put, List.setIfInBounds_toArray, List.set_cons_zero, List.set_cons_succ]
                  refine AnyT.takeD (i := 1) (d := some 173) (v := .pointer (some ⟨b, 0, none⟩)) rfl rfl (by kernel_rfl) (by kernel_rfl) (by kernel_rfl) (by kernel_rfl) (fun _ _ _ h => h) (Or.inl ⟨by rfl, fun wz _ => by go_simp⟩) F0 ?_
                  simp only [Act.put, List.setIfInBounds_toArray, List.set_cons_zero, List.set_cons_succ]
                  refine AnyT.takeD (i := 2) (d := some 174) (v := .slice (some aA) L jc) rfl rfl (by kernel_rfl) (by kernel_rfl) (by kernel_rfl) (by kernel_rfl) (fun _ _ _ h => h) (Or.inl ⟨by rfl, fun wz hz => by obtain ⟨z0, z1, z2⟩ := hz; go_simp⟩) F0 ?_
                  simp only [Act.put, List.setIfInBounds_toArray, List.set_cons_zero, List.set_cons_succ]
                  refine AnyT.takeD (i := 3) (d := some 175) (v := .int .i64 (x : Int)) rfl rfl (by kernel_rfl) (by kernel_rfl) (by kernel_rfl) (by kernel_rfl) (fun _ _ _ h => h) (Or.inl ⟨by rfl, fun wz _ => by go_simp⟩) F0 ?_
                  simp only [Act.put, List.setIfInBounds_toArray, List.set_cons_zero, List.set_cons_succ]
                  refine AnyT.takeD (i := 4) (d := some 176) (v := .pointer (some (aA.add (x * 4)))) rfl rfl (by kernel_rfl) (by kernel_rfl) (by kernel_rfl) (by kernel_rfl) (fun _ _ _ h => h) (Or.inl ⟨by rfl, fun wz _ => by go_simp⟩) F0 ?_
                  simp only [Act.put, List.setIfInBounds_toArray, List.set_cons_zero, List.set_cons_succ]
                  refine AnyT.takeD (i := 5) (d := some 177) (v := .pointer (some (aA.add (x * 4)))) rfl rfl (by kernel_rfl) (by kernel_rfl) (by kernel_rfl) (by kernel_rfl) (fun _ _ _ h => h) (Or.inl ⟨by rfl, fun wz _ => by go_simp⟩) F0 ?_
                  simp only [Act.put, List.setIfInBounds_toArray, List.set_cons_zero, List.set_cons_succ]
                  refine AnyT.takeD (i := 6) (d := some 178) (v := .int .i64 (D : Int)) rfl rfl (by kernel_rfl) (by kernel_rfl) (by kernel_rfl) (by kernel_rfl) (fun _ _ _ h => h) (Or.inl ⟨by rfl, fun wz hz => by obtain ⟨z0, z1, z2⟩ := hz; go_simp⟩) F0 ?_
                  simp only [Act.put, List.setIfInBounds_toArray, List.set_cons_zero, List.set_cons_succ]
                  refine AnyT.takeD (i := 8) (d := some 180) (v := .slice (some ⟨gt, 0, none⟩) T T) rfl rfl (by kernel_rfl) (by kernel_rfl) (by kernel_rfl) (by kernel_rfl) (fun _ _ _ h => h) (Or.inl ⟨by rfl, fun wz _ => by go_simp⟩) F0 ?_
                  simp only [Act.put, List.setIfInBounds_toArray, List.set_cons_zero, List.set_cons_succ]
                  refine AnyT.takeD (i := 9) (d := some 181) (v := .pointer (some ⟨b, 0, none⟩)) rfl rfl (by kernel_rfl) (by kernel_rfl) (by kernel_rfl) (by kernel_rfl) (fun _ _ _ h => h) (Or.inl ⟨by rfl, fun wz _ => by go_simp⟩) F0 ?_
                  simp only [Act.put, List.setIfInBounds_toArray, List.set_cons_zero, List.set_cons_succ]
                  refine AnyT.takeD (i := 10) (d := some 182) (v := .slice (some aA) L jc) rfl rfl (by kernel_rfl) (by kernel_rfl) (by kernel_rfl) (by kernel_rfl) (fun _ _ _ h => h) (Or.inl ⟨by rfl, fun wz hz => by obtain ⟨z0, z1, z2⟩ := hz; go_simp⟩) F0 ?_
                  simp only [Act.put, List.setIfInBounds_toArray, List.set_cons_zero, List.set_cons_succ]
                  refine AnyT.takeD (i := 11) (d := some 183) (v := .int .i64 (x : Int)) rfl rfl (by kernel_rfl) (by kernel_rfl) (by kernel_rfl) (by kernel_rfl) (fun _ _ _ h => h) (Or.inl ⟨by rfl, fun wz _ => by go_simp⟩) F0 ?_
                  simp only [Act.put, List.setIfInBounds_toArray, List.set_cons_zero, List.set_cons_succ]
                  refine AnyT.takeD (i := 12) (d := some 184) (v := .pointer (some (aA.add (x * 4)))) rfl rfl (by kernel_rfl) (by kernel_rfl) (by kernel_rfl) (by kernel_rfl) (fun _ _ _ h => h) (Or.inl ⟨by rfl, fun wz _ => by go_simp⟩) F0 ?_
                  simp only [Act.put, List.setIfInBounds_toArray, List.set_cons_zero, List.set_cons_succ]
                  refine AnyT.takeD (i := 13) (d := some 185) (v := .pointer (some (aA.add (x * 4)))) rfl rfl (by kernel_rfl) (by kernel_rfl) (by kernel_rfl) (by kernel_rfl) (fun _ _ _ h => h) (Or.inl ⟨by rfl, fun wz _ => by go_simp⟩) F0 ?_
                  simp only [Act.put, List.setIfInBounds_toArray, List.set_cons_zero, List.set_cons_succ]
                  refine AnyT.takeD (i := 14) (d := some 186) (v := .int .i64 (D : Int)) rfl rfl (by kernel_rfl) (by kernel_rfl) (by kernel_rfl) (by kernel_rfl) (fun _ _ _ h => h) (Or.inl ⟨by rfl, fun wz hz => by obtain ⟨z0, z1, z2⟩ := hz; go_simp⟩) F0 ?_
                  simp only [Act.put, List.setIfInBounds_toArray, List.set_cons_zero, List.set_cons_succ]
                  refine AnyT.takeD (i := 15) (d := some 187) (v := .pointer (some ⟨gt, D, none⟩)) rfl rfl (by kernel_rfl) (by kernel_rfl) (by kernel_rfl) (by kernel_rfl) (fun _ _ _ h => h) (Or.inl ⟨by rfl, fun wz _ => by go_simp⟩) F0 ?_
                  simp only [Act.put, List.setIfInBounds_toArray, List.set_cons_zero, List.set_cons_succ]
                  refine AnyT.takeD (i := 16) (d := some 188) (v := .slice ra rn rc) rfl rfl (by kernel_rfl) (by kernel_rfl) (by kernel_rfl) (by kernel_rfl) (fun _ _ _ h => h) (Or.inl ⟨by rfl, fun wz hz => by obtain ⟨z0, z1, z2⟩ := hz; go_simp⟩) F0 ?_
                  simp only [Act.put, List.setIfInBounds_toArray, List.set_cons_zero, List.set_cons_succ]
                  refine AnyT.takeD (i := 18) (d := some 190) (v := .int .i64 (x : Int)) rfl rfl (by kernel_rfl) (by kernel_rfl) (by kernel_rfl) (by kernel_rfl) (fun _ _ _ h => h) (Or.inl ⟨by rfl, fun wz _ => by go_simp⟩) F0 ?_
                  simp only [Act.put, List.setIfInBounds_toArray, List.set_cons_zero, List.set_cons_succ]
                  refine AnyT.branch (rs := [7, 19]) (by kernel_rfl) (by simp) ?_
                  refine all_cons (?_) (all_cons (?_) all_nil)
                  · skip
                    obtain ⟨q1, e1⟩ : ∃ q, q = q0.alloc (.cells #[] 3) := ⟨_, rfl⟩
                    have HB1 := Lib.hid (show Below wr.heap.size wr q1 by rw [e1]; exact HB0.out.alloc HB0.out.size _)
                    have OE := Lib.hid (show Own .i64 3 q1 wr.heap.size (.slice (some ⟨q0.heap.size, 0, none⟩) 0 0) [] by rw [e1]; exact own_empty HB0.out.size)
                    have F1 : q1.cell? ⟨gt, D, none⟩ = some (.slice ra rn rc) ∧ q1.cell? ⟨b, 0, none⟩ = some (.slice (some aA) L jc) ∧ q1.cell? (aA.add (x * 4)) = some (.int .i64 (D : Int)) := ⟨(HB1.out.cell (p := ⟨gt, D, none⟩) HLG.out).trans HR1.out, ((HB1.out.cell (p := ⟨b, 0, none⟩) HJL.out).trans HJ0.out), ((HB1.out.cell (p := (aA.add (x * 4))) HCL.out).trans HC0.out)⟩
                    refine AnyT.yield (i := 7) (d := some 179) (v := .slice (some ⟨q0.heap.size, 0, none⟩) 0 0) (w' := q1) rfl rfl rfl (by rw [e1]; go_simp) (fun _ => F1) ?_
                    obtain ⟨ze, hze⟩ : ∃ z, z = q0.heap.size := ⟨_, rfl⟩
                    rw [← hze] at OE ⊢
                    clear hze e1
                    clear F0
                    simp only [Act.put, List.setIfInBounds_toArray, List.set_cons_zero, List.set_cons_succ]
                    refine AnyT.branch (rs := [17, 19]) (by kernel_rfl) (by simp) ?_
                    refine all_cons (?_) (all_cons (?_) all_nil)
                    · skip
                      refine AnyT.appR (i := 17) (d := some 189) rfl rfl rfl (.tmp 179) (.tmp 188) rfl wr.heap.size _ [] rfl OE.out ra rn rc (toZ P1) rfl HRN.out (by rw [toZ_len]; exact HPN1.out) (HRR.out.below (HB1.out)) (by rw [toZ_len]; have := HRB.out; simp only [List.length_nil]; omega) HB1.out.size ?_
                      intro vp q2 hown hgr
                      have OP := Lib.hid (show Own .i64 3 q2 wr.heap.size vp (toZ P1) from hown)
                      have HB2 := Lib.hid (show Below wr.heap.size wr q2 from HB1.out.grown hgr HB1.out.size (fun k e => (own_block OE.out e).1))
                      have F2 : q2.cell? ⟨gt, D, none⟩ = some (.slice ra rn rc) ∧ q2.cell? ⟨b, 0, none⟩ = some (.slice (some aA) L jc) ∧ q2.cell? (aA.add (x * 4)) = some (.int .i64 (D : Int)) := ⟨(HB2.out.cell (p := ⟨gt, D, none⟩) HLG.out).trans HR1.out, ((HB2.out.cell (p := ⟨b, 0, none⟩) HJL.out).trans HJ0.out), ((HB2.out.cell (p := (aA.add (x * 4))) HCL.out).trans HC0.out)⟩
                      clear hown hgr
                      refine ⟨fun _ => F2, ?_⟩
                      clear F1
                      simp only [Act.put, List.setIfInBounds_toArray, List.set_cons_zero, List.set_cons_succ]
                      refine AnyT.branch (rs := [19]) (by kernel_rfl) (by simp) ?_
                      refine all_cons (?_) all_nil
                      obtain ⟨q3, e3⟩ : ∃ q, q = q2.alloc (.cells #[.int .i64 (x : Int)] 3) := ⟨_, rfl⟩
                      have HB3 := Lib.hid (show Below wr.heap.size wr q3 by rw [e3]; exact HB2.out.alloc HB2.out.size _)
                      have OL := Lib.hid (show Row .i64 q3 q3.heap.size (some ⟨q2.heap.size, 0, none⟩) [(x : Int)] by rw [e3]; exact row_lit q2 [(x : Int)] (by simp))
                      have HZL := Lib.hid (show q2.heap.size < q3.heap.size by rw [e3]; simp)
                      have F3 : q3.cell? ⟨gt, D, none⟩ = some (.slice ra rn rc) ∧ q3.cell? ⟨b, 0, none⟩ = some (.slice (some aA) L jc) ∧ q3.cell? (aA.add (x * 4)) = some (.int .i64 (D : Int)) := ⟨(HB3.out.cell (p := ⟨gt, D, none⟩) HLG.out).trans HR1.out, ((HB3.out.cell (p := ⟨b, 0, none⟩) HJL.out).trans HJ0.out), ((HB3.out.cell (p := (aA.add (x * 4))) HCL.out).trans HC0.out)⟩
                      have OP := Lib.hid (show Own .i64 3 q3 wr.heap.size vp (toZ P1) by rw [e3]; exact OP.out.alloc _)
                      refine AnyT.yield (i := 19) (d := some 191) (v := .slice (some ⟨q2.heap.size, 0, none⟩) 1 1) (w' := q3) rfl rfl rfl (by rw [e3]; go_simp) (fun _ => F3) ?_
                      obtain ⟨zl, hzl⟩ : ∃ z, z = q2.heap.size := ⟨_, rfl⟩
                      rw [← hzl] at OL HZL ⊢
                      clear hzl e3
                      clear F2
                      simp only [Act.put, List.setIfInBounds_toArray, List.set_cons_zero, List.set_cons_succ]
                      refine AnyT.branch (rs := [20]) (by kernel_rfl) (by simp) ?_
                      refine all_cons (?_) all_nil
                      refine AnyT.appR (i := 20) (d := some 192) rfl rfl rfl (.tmp 189) (.tmp 191) rfl wr.heap.size vp (toZ P1) rfl OP.out (some ⟨zl, 0, none⟩) 1 1 [(x : Int)] rfl (fun e => by cases e) rfl OL.out (by rw [toZ_len]; have := HRB.out; simp only [List.length_cons, List.length_nil]; omega) HB3.out.size ?_
                      intro v2 q9 hown hgr
                      have HB9 := Lib.hid (show Below wr.heap.size wr q9 from HB3.out.grown hgr HB3.out.size (fun k e => (own_block OP.out e).1))
                      have F9 : q9.cell? ⟨gt, D, none⟩ = some (.slice ra rn rc) ∧ q9.cell? ⟨b, 0, none⟩ = some (.slice (some aA) L jc) ∧ q9.cell? (aA.add (x * 4)) = some (.int .i64 (D : Int)) := ⟨(HB9.out.cell (p := ⟨gt, D, none⟩) HLG.out).trans HR1.out, ((HB9.out.cell (p := ⟨b, 0, none⟩) HJL.out).trans HJ0.out), ((HB9.out.cell (p := (aA.add (x * 4))) HCL.out).trans HC0.out)⟩
                      obtain ⟨A2, c2, ev2, R2, -, hm2, hge2⟩ := hown.slice
                      obtain ⟨n2, hn2⟩ : ∃ n, n = (toZ P1 ++ [(x : Int)]).length := ⟨_, rfl⟩
                      rw [← hn2] at ev2
                      subst ev2
                      have HNEW := Lib.hid (show StS w (q9.setCell ⟨gt, D, none⟩ (.slice A2 n2 c2)) b (some aA) jc l wt M g1 (S : Int) (some pad) L pc v gs gt gc gd si (ti.set D (P1 ++ [x])) cc dd by
                        have e1 : toZ P1 ++ [(x : Int)] = toZ (P1 ++ [x]) := by unfold toZ; rw [List.map_append]; rfl
                        have e2 : n2 = (P1 ++ [x]).length := by rw [hn2, e1, toZ_len]
                        rw [e1] at R2 hge2 hm2
                        rw [toZ_len] at hge2 hm2
                        rw [e2]
                        refine (SX.out.below HB9.out).putT R2 (fun e => ?_) hm2 (fun y hy => ?_) (by rw [HTI.out]; exact hDT)
                        · obtain ⟨g, hg, _⟩ := hge2 (by simp)
                          rw [hg] at e; cases e
                        · obtain ⟨g, hg, hg1, _⟩ := hge2 (by simp)
                          rw [hg] at hy; injection hy with hy; subst hy
                          have h1 := SX.out.s.lt; have h2 := SX.out.t.lt
                          rintro (e | e)
                          · have e3 : g = gs := e; omega
                          · have e3 : g = gt := e; omega)
                      have HONE := Lib.hid ((OI.out.below HB9.out).setN (p := ⟨gt, D, none⟩) (fun g hg => by have h1 := (own_block OI.out hg).1; have := HG8.out; show g ≠ gt; omega) (.slice A2 n2 c2))
                      have HZ9 := Lib.hid (show w8.heap.size ≤ (q9.setCell ⟨gt, D, none⟩ (.slice A2 n2 c2)).heap.size by rw [World.size_setCell]; exact Nat.le_trans SZ.out HB9.out.size)
                      have HFZ := Lib.hid (show q9.frozen? ⟨gt, D, none⟩ = false from (HB9.out.frozen (p := ⟨gt, D, none⟩) HLG.out).trans HF1.out)
                      clear hown hgr R2 hm2 hge2 hn2 OP OL F3
                      refine ⟨fun _ => F9, ?_⟩
                      simp only [Act.put, List.setIfInBounds_toArray, List.set_cons_zero, List.set_cons_succ]
                      refine AnyT.takeD (i := 21) (d := some 193) (v := .pointer (some ⟨gt, D, none⟩)) rfl rfl (by kernel_rfl) (by kernel_rfl) (by kernel_rfl) (by kernel_rfl) (fun _ _ _ h => h) (Or.inl ⟨by rfl, fun wz _ => by go_simp⟩) F9 ?_
                      simp only [Act.put, List.setIfInBounds_toArray, List.set_cons_zero, List.set_cons_succ]
                      refine AnyT.branch (rs := [22]) (by kernel_rfl) (by simp) ?_
                      refine all_cons (?_) all_nil
                      refine AnyT.step (i := 22) rfl (fun KK hK => ?_)
                      obtain ⟨z0, z1, z2⟩ := F9
                      have y0 := HFZ.out
                      go_simp
                      refine hK.out _ _ (fun h => absurd h (by decide)) ?_
                      clear hK KK HFZ y0 z0 z1 z2
                      refine AnyT.done_ (by kernel_rfl) ?_ _
                      clear OI SX HRN HRR HR1 HF1 HJ0 HC0
                      go_wp2_with fail
                      go_roundw
                      case rel => exact ⟨i + 1, by omega, by go_num, by rw [HTS.out, List.foldl_append, List.foldl_append, List.foldl_cons, List.foldl_cons, List.foldl_nil, List.foldl_nil, ← HSIE.out, ← HTIE.out, HPS.out, HPT.out]; exact HNEW, HONE, HZ9⟩
                      case measure => simp [intOf]; omega
                    · skip
                      obtain ⟨q2, e2⟩ : ∃ q, q = q1.alloc (.cells #[.int .i64 (x : Int)] 3) := ⟨_, rfl⟩
                      have HB2 := Lib.hid (show Below wr.heap.size wr q2 by rw [e2]; exact HB1.out.alloc HB1.out.size _)
                      have OL := Lib.hid (show Row .i64 q2 q2.heap.size (some ⟨q1.heap.size, 0, none⟩) [(x : Int)] by rw [e2]; exact row_lit q1 [(x : Int)] (by simp))
                      have HZL := Lib.hid (show q1.heap.size < q2.heap.size by rw [e2]; simp)
                      have F2 : q2.cell? ⟨gt, D, none⟩ = some (.slice ra rn rc) ∧ q2.cell? ⟨b, 0, none⟩ = some (.slice (some aA) L jc) ∧ q2.cell? (aA.add (x * 4)) = some (.int .i64 (D : Int)) := ⟨(HB2.out.cell (p := ⟨gt, D, none⟩) HLG.out).trans HR1.out, ((HB2.out.cell (p := ⟨b, 0, none⟩) HJL.out).trans HJ0.out), ((HB2.out.cell (p := (aA.add (x * 4))) HCL.out).trans HC0.out)⟩
                      have HZN := Lib.hid (show q1.heap.size ≠ ze from fun e => by have h1 := (own_block OE.out (g := ze) rfl).2; omega)
                      have OE := Lib.hid (show Own .i64 3 q2 wr.heap.size (.slice (some ⟨ze, 0, none⟩) 0 0) [] by rw [e2]; exact OE.out.alloc _)
                      refine AnyT.yield (i := 19) (d := some 191) (v := .slice (some ⟨q1.heap.size, 0, none⟩) 1 1) (w' := q2) rfl rfl rfl (by rw [e2]; go_simp) (fun _ => F2) ?_
                      obtain ⟨zl, hzl⟩ : ∃ z, z = q1.heap.size := ⟨_, rfl⟩
                      rw [← hzl] at OL HZL HZN ⊢
                      clear hzl e2
                      clear F1
                      simp only [Act.put, List.setIfInBounds_toArray, List.set_cons_zero, List.set_cons_succ]
                      refine AnyT.branch (rs := [17]) (by kernel_rfl) (by simp) ?_
                      refine all_cons (?_) all_nil
                      refine AnyT.appR (i := 17) (d := some 189) rfl rfl rfl (.tmp 179) (.tmp 188) rfl wr.heap.size _ [] rfl OE.out ra rn rc (toZ P1) rfl HRN.out (by rw [toZ_len]; exact HPN1.out) (HRR.out.below (HB2.out)) (by rw [toZ_len]; have := HRB.out; simp only [List.length_nil]; omega) HB2.out.size ?_
                      intro vp q3 hown hgr
                      have OP := Lib.hid (show Own .i64 3 q3 wr.heap.size vp (toZ P1) from hown)
                      have HB3 := Lib.hid (show Below wr.heap.size wr q3 from HB2.out.grown hgr HB2.out.size (fun k e => (own_block OE.out e).1))
                      have F3 : q3.cell? ⟨gt, D, none⟩ = some (.slice ra rn rc) ∧ q3.cell? ⟨b, 0, none⟩ = some (.slice (some aA) L jc) ∧ q3.cell? (aA.add (x * 4)) = some (.int .i64 (D : Int)) := ⟨(HB3.out.cell (p := ⟨gt, D, none⟩) HLG.out).trans HR1.out, ((HB3.out.cell (p := ⟨b, 0, none⟩) HJL.out).trans HJ0.out), ((HB3.out.cell (p := (aA.add (x * 4))) HCL.out).trans HC0.out)⟩
                      have OL := Lib.hid (show Row .i64 q3 q3.heap.size (some ⟨zl, 0, none⟩) [(x : Int)] from OL.out.litG hgr HZN.out)
                      clear hown hgr
                      refine ⟨fun _ => F3, ?_⟩
                      clear F2
                      simp only [Act.put, List.setIfInBounds_toArray, List.set_cons_zero, List.set_cons_succ]
                      refine AnyT.branch (rs := [20]) (by kernel_rfl) (by simp) ?_
                      refine all_cons (?_) all_nil
                      refine AnyT.appR (i := 20) (d := some 192) rfl rfl rfl (.tmp 189) (.tmp 191) rfl wr.heap.size vp (toZ P1) rfl OP.out (some ⟨zl, 0, none⟩) 1 1 [(x : Int)] rfl (fun e => by cases e) rfl OL.out (by rw [toZ_len]; have := HRB.out; simp only [List.length_cons, List.length_nil]; omega) HB3.out.size ?_
                      intro v2 q9 hown hgr
                      have HB9 := Lib.hid (show Below wr.heap.size wr q9 from HB3.out.grown hgr HB3.out.size (fun k e => (own_block OP.out e).1))
                      have F9 : q9.cell? ⟨gt, D, none⟩ = some (.slice ra rn rc) ∧ q9.cell? ⟨b, 0, none⟩ = some (.slice (some aA) L jc) ∧ q9.cell? (aA.add (x * 4)) = some (.int .i64 (D : Int)) := ⟨(HB9.out.cell (p := ⟨gt, D, none⟩) HLG.out).trans HR1.out, ((HB9.out.cell (p := ⟨b, 0, none⟩) HJL.out).trans HJ0.out), ((HB9.out.cell (p := (aA.add (x * 4))) HCL.out).trans HC0.out)⟩
                      obtain ⟨A2, c2, ev2, R2, -, hm2, hge2⟩ := hown.slice
                      obtain ⟨n2, hn2⟩ : ∃ n, n = (toZ P1 ++ [(x : Int)]).length := ⟨_, rfl⟩
                      rw [← hn2] at ev2
                      subst ev2
                      have HNEW := Lib.hid (show StS w (q9.setCell ⟨gt, D, none⟩ (.slice A2 n2 c2)) b (some aA) jc l wt M g1 (S : Int) (some pad) L pc v gs gt gc gd si (ti.set D (P1 ++ [x])) cc dd by
                        have e1 : toZ P1 ++ [(x : Int)] = toZ (P1 ++ [x]) := by unfold toZ; rw [List.map_append]; rfl
                        have e2 : n2 = (P1 ++ [x]).length := by rw [hn2, e1, toZ_len]
                        rw [e1] at R2 hge2 hm2
                        rw [toZ_len] at hge2 hm2
                        rw [e2]
                        refine (SX.out.below HB9.out).putT R2 (fun e => ?_) hm2 (fun y hy => ?_) (by rw [HTI.out]; exact hDT)
                        · obtain ⟨g, hg, _⟩ := hge2 (by simp)
                          rw [hg] at e; cases e
                        · obtain ⟨g, hg, hg1, _⟩ := hge2 (by simp)
                          rw [hg] at hy; injection hy with hy; subst hy
                          have h1 := SX.out.s.lt; have h2 := SX.out.t.lt
                          rintro (e | e)
                          · have e3 : g = gs := e; omega
                          · have e3 : g = gt := e; omega)
                      have HONE := Lib.hid ((OI.out.below HB9.out).setN (p := ⟨gt, D, none⟩) (fun g hg => by have h1 := (own_block OI.out hg).1; have := HG8.out; show g ≠ gt; omega) (.slice A2 n2 c2))
                      have HZ9 := Lib.hid (show w8.heap.size ≤ (q9.setCell ⟨gt, D, none⟩ (.slice A2 n2 c2)).heap.size by rw [World.size_setCell]; exact Nat.le_trans SZ.out HB9.out.size)
                      have HFZ := Lib.hid (show q9.frozen? ⟨gt, D, none⟩ = false from (HB9.out.frozen (p := ⟨gt, D, none⟩) HLG.out).trans HF1.out)
                      clear hown hgr R2 hm2 hge2 hn2 OP OL F3
                      refine ⟨fun _ => F9, ?_⟩
                      simp only [Act.put, List.setIfInBounds_toArray, List.set_cons_zero, List.set_cons_succ]
                      refine AnyT.takeD (i := 21) (d := some 193) (v := .pointer (some ⟨gt, D, none⟩)) rfl rfl (by kernel_rfl) (by kernel_rfl) (by kernel_rfl) (by kernel_rfl) (fun _ _ _ h => h) (Or.inl ⟨by rfl, fun wz _ => by go_simp⟩) F9 ?_
                      simp only [Act.put, List.setIfInBounds_toArray, List.set_cons_zero, List.set_cons_succ]
                      refine AnyT.branch (rs := [22]) (by kernel_rfl) (by simp) ?_
                      refine all_cons (?_) all_nil
                      refine AnyT.step (i := 22) rfl (fun KK hK => ?_)
                      obtain ⟨z0, z1, z2⟩ := F9
                      have y0 := HFZ.out
                      go_simp
                      refine hK.out _ _ (fun h => absurd h (by decide)) ?_
                      clear hK KK HFZ y0 z0 z1 z2
                      refine AnyT.done_ (by kernel_rfl) ?_ _
                      clear OI SX HRN HRR HR1 HF1 HJ0 HC0
                      go_wp2_with fail
                      go_roundw
                      case rel => exact ⟨i + 1, by omega, by go_num, by rw [HTS.out, List.foldl_append, List.foldl_append, List.foldl_cons, List.foldl_cons, List.foldl_nil, List.foldl_nil, ← HSIE.out, ← HTIE.out, HPS.out, HPT.out]; exact HNEW, HONE, HZ9⟩
                      case measure => simp [intOf]; omega
                  · skip
                    obtain ⟨q1, e1⟩ : ∃ q, q = q0.alloc (.cells #[.int .i64 (x : Int)] 3) := ⟨_, rfl⟩
                    have HB1 := Lib.hid (show Below wr.heap.size wr q1 by rw [e1]; exact HB0.out.alloc HB0.out.size _)
                    have OL := Lib.hid (show Row .i64 q1 q1.heap.size (some ⟨q0.heap.size, 0, none⟩) [(x : Int)] by rw [e1]; exact row_lit q0 [(x : Int)] (by simp))
                    have HZL := Lib.hid (show q0.heap.size < q1.heap.size by rw [e1]; simp)
                    have F1 : q1.cell? ⟨gt, D, none⟩ = some (.slice ra rn rc) ∧ q1.cell? ⟨b, 0, none⟩ = some (.slice (some aA) L jc) ∧ q1.cell? (aA.add (x * 4)) = some (.int .i64 (D : Int)) := ⟨(HB1.out.cell (p := ⟨gt, D, none⟩) HLG.out).trans HR1.out, ((HB1.out.cell (p := ⟨b, 0, none⟩) HJL.out).trans HJ0.out), ((HB1.out.cell (p := (aA.add (x * 4))) HCL.out).trans HC0.out)⟩
                    refine AnyT.yield (i := 19) (d := some 191) (v := .slice (some ⟨q0.heap.size, 0, none⟩) 1 1) (w' := q1) rfl rfl rfl (by rw [e1]; go_simp) (fun _ => F1) ?_
                    obtain ⟨zl, hzl⟩ : ∃ z, z = q0.heap.size := ⟨_, rfl⟩
                    rw [← hzl] at OL HZL ⊢
                    clear hzl e1
                    clear F0
                    simp only [Act.put, List.setIfInBounds_toArray, List.set_cons_zero, List.set_cons_succ]
                    refine AnyT.branch (rs := [7]) (by kernel_rfl) (by simp) ?_
                    refine all_cons (?_) all_nil
                    obtain ⟨q2, e2⟩ : ∃ q, q = q1.alloc (.cells #[] 3) := ⟨_, rfl⟩
                    have HB2 := Lib.hid (show Below wr.heap.size wr q2 by rw [e2]; exact HB1.out.alloc HB1.out.size _)
                    have OE := Lib.hid (show Own .i64 3 q2 wr.heap.size (.slice (some ⟨q1.heap.size, 0, none⟩) 0 0) [] by rw [e2]; exact own_empty HB1.out.size)
                    have F2 : q2.cell? ⟨gt, D, none⟩ = some (.slice ra rn rc) ∧ q2.cell? ⟨b, 0, none⟩ = some (.slice (some aA) L jc) ∧ q2.cell? (aA.add (x * 4)) = some (.int .i64 (D : Int)) := ⟨(HB2.out.cell (p := ⟨gt, D, none⟩) HLG.out).trans HR1.out, ((HB2.out.cell (p := ⟨b, 0, none⟩) HJL.out).trans HJ0.out), ((HB2.out.cell (p := (aA.add (x * 4))) HCL.out).trans HC0.out)⟩
                    have OL := Lib.hid (show Row .i64 q2 q2.heap.size (some ⟨zl, 0, none⟩) [(x : Int)] by rw [e2]; exact OL.out.below ((Below.refl _ _).alloc (Nat.le_refl _) _))
                    have HZN := Lib.hid (show zl ≠ q1.heap.size from fun e => Nat.lt_irrefl _ (e ▸ HZL.out))
                    refine AnyT.yield (i := 7) (d := some 179) (v := .slice (some ⟨q1.heap.size, 0, none⟩) 0 0) (w' := q2) rfl rfl rfl (by rw [e2]; go_simp) (fun _ => F2) ?_
                    obtain ⟨ze, hze⟩ : ∃ z, z = q1.heap.size := ⟨_, rfl⟩
                    rw [← hze] at OE HZN ⊢
                    clear hze e2
                    clear F1
                    simp only [Act.put, List.setIfInBounds_toArray, List.set_cons_zero, List.set_cons_succ]
                    refine AnyT.branch (rs := [17]) (by kernel_rfl) (by simp) ?_
                    refine all_cons (?_) all_nil
                    refine AnyT.appR (i := 17) (d := some 189) rfl rfl rfl (.tmp 179) (.tmp 188) rfl wr.heap.size _ [] rfl OE.out ra rn rc (toZ P1) rfl HRN.out (by rw [toZ_len]; exact HPN1.out) (HRR.out.below (HB2.out)) (by rw [toZ_len]; have := HRB.out; simp only [List.length_nil]; omega) HB2.out.size ?_
                    intro vp q3 hown hgr
                    have OP := Lib.hid (show Own .i64 3 q3 wr.heap.size vp (toZ P1) from hown)
                    have HB3 := Lib.hid (show Below wr.heap.size wr q3 from HB2.out.grown hgr HB2.out.size (fun k e => (own_block OE.out e).1))
                    have F3 : q3.cell? ⟨gt, D, none⟩ = some (.slice ra rn rc) ∧ q3.cell? ⟨b, 0, none⟩ = some (.slice (some aA) L jc) ∧ q3.cell? (aA.add (x * 4)) = some (.int .i64 (D : Int)) := ⟨(HB3.out.cell (p := ⟨gt, D, none⟩) HLG.out).trans HR1.out, ((HB3.out.cell (p := ⟨b, 0, none⟩) HJL.out).trans HJ0.out), ((HB3.out.cell (p := (aA.add (x * 4))) HCL.out).trans HC0.out)⟩
                    have OL := Lib.hid (show Row .i64 q3 q3.heap.size (some ⟨zl, 0, none⟩) [(x : Int)] from OL.out.litG hgr HZN.out)
                    clear hown hgr
                    refine ⟨fun _ => F3, ?_⟩
                    clear F2
                    simp only [Act.put, List.setIfInBounds_toArray, List.set_cons_zero, List.set_cons_succ]
                    refine AnyT.branch (rs := [20]) (by kernel_rfl) (by simp) ?_
                    refine all_cons (?_) all_nil
                    refine AnyT.appR (i := 20) (d := some 192) rfl rfl rfl (.tmp 189) (.tmp 191) rfl wr.heap.size vp (toZ P1) rfl OP.out (some ⟨zl, 0, none⟩) 1 1 [(x : Int)] rfl (fun e => by cases e) rfl OL.out (by rw [toZ_len]; have := HRB.out; simp only [List.length_cons, List.length_nil]; omega) HB3.out.size ?_
                    intro v2 q9 hown hgr
                    have HB9 := Lib.hid (show Below wr.heap.size wr q9 from HB3.out.grown hgr HB3.out.size (fun k e => (own_block OP.out e).1))
                    have F9 : q9.cell? ⟨gt, D, none⟩ = some (.slice ra rn rc) ∧ q9.cell? ⟨b, 0, none⟩ = some (.slice (some aA) L jc) ∧ q9.cell? (aA.add (x * 4)) = some (.int .i64 (D : Int)) := ⟨(HB9.out.cell (p := ⟨gt, D, none⟩) HLG.out).trans HR1.out, ((HB9.out.cell (p := ⟨b, 0, none⟩) HJL.out).trans HJ0.out), ((HB9.out.cell (p := (aA.add (x * 4))) HCL.out).trans HC0.out)⟩
                    obtain ⟨A2, c2, ev2, R2, -, hm2, hge2⟩ := hown.slice
                    obtain ⟨n2, hn2⟩ : ∃ n, n = (toZ P1 ++ [(x : Int)]).length := ⟨_, rfl⟩
                    rw [← hn2] at ev2
                    subst ev2
                    have HNEW := Lib.hid (show StS w (q9.setCell ⟨gt, D, none⟩ (.slice A2 n2 c2)) b (some aA) jc l wt M g1 (S : Int) (some pad) L pc v gs gt gc gd si (ti.set D (P1 ++ [x])) cc dd by
                      have e1 : toZ P1 ++ [(x : Int)] = toZ (P1 ++ [x]) := by unfold toZ; rw [List.map_append]; rfl
                      have e2 : n2 = (P1 ++ [x]).length := by rw [hn2, e1, toZ_len]
                      rw [e1] at R2 hge2 hm2
                      rw [toZ_len] at hge2 hm2
                      rw [e2]
                      refine (SX.out.below HB9.out).putT R2 (fun e => ?_) hm2 (fun y hy => ?_) (by rw [HTI.out]; exact hDT)
                      · obtain ⟨g, hg, _⟩ := hge2 (by simp)
                        rw [hg] at e; cases e
                      · obtain ⟨g, hg, hg1, _⟩ := hge2 (by simp)
                        rw [hg] at hy; injection hy with hy; subst hy
                        have h1 := SX.out.s.lt; have h2 := SX.out.t.lt
                        rintro (e | e)
                        · have e3 : g = gs := e; omega
                        · have e3 : g = gt := e; omega)
                    have HONE := Lib.hid ((OI.out.below HB9.out).setN (p := ⟨gt, D, none⟩) (fun g hg => by have h1 := (own_block OI.out hg).1; have := HG8.out; show g ≠ gt; omega) (.slice A2 n2 c2))
                    have HZ9 := Lib.hid (show w8.heap.size ≤ (q9.setCell ⟨gt, D, none⟩ (.slice A2 n2 c2)).heap.size by rw [World.size_setCell]; exact Nat.le_trans SZ.out HB9.out.size)
                    have HFZ := Lib.hid (show q9.frozen? ⟨gt, D, none⟩ = false from (HB9.out.frozen (p := ⟨gt, D, none⟩) HLG.out).trans HF1.out)
                    clear hown hgr R2 hm2 hge2 hn2 OP OL F3
                    refine ⟨fun _ => F9, ?_⟩
                    simp only [Act.put, List.setIfInBounds_toArray, List.set_cons_zero, List.set_cons_succ]
                    refine AnyT.takeD (i := 21) (d := some 193) (v := .pointer (some ⟨gt, D, none⟩)) rfl rfl (by kernel_rfl) (by kernel_rfl) (by kernel_rfl) (by kernel_rfl) (fun _ _ _ h => h) (Or.inl ⟨by rfl, fun wz _ => by go_simp⟩) F9 ?_
                    simp only [Act.put, List.setIfInBounds_toArray, List.set_cons_zero, List.set_cons_succ]
                    refine AnyT.branch (rs := [22]) (by kernel_rfl) (by simp) ?_
                    refine all_cons (?_) all_nil
                    refine AnyT.step (i := 22) rfl (fun KK hK => ?_)
                    obtain ⟨z0, z1, z2⟩ := F9
                    have y0 := HFZ.out
                    go_simp
                    refine hK.out _ _ (fun h => absurd h (by decide)) ?_
                    clear hK KK HFZ y0 z0 z1 z2
                    refine AnyT.done_ (by kernel_rfl) ?_ _
                    clear OI SX HRN HRR HR1 HF1 HJ0 HC0
                    go_wp2_with fail
                    go_roundw
                    case rel => exact ⟨i + 1, by omega, by go_num, by rw [HTS.out, List.foldl_append, List.foldl_append, List.foldl_cons, List.foldl_cons, List.foldl_nil, List.foldl_nil, ← HSIE.out, ← HTIE.out, HPS.out, HPT.out]; exact HNEW, HONE, HZ9⟩
                    case measure => simp [intOf]; omega
                  -- TAKEN G34
              | succ j' =>
                have hw := HW.out
                rw [hw]
                clear hw HW
                have hjl : j' < Z.length := by rw [← HZN.out]; omega
                obtain ⟨zad, rfl, zlt, cz⟩ := HZR.out j' (by rw [toZ_len]; exact hjl)
                rw [toZ_at Z hjl] at cz
                have HFG := Lib.hid (firstG_drop (t := k + 1) hjl)
                obtain ⟨zz, hzz⟩ : ∃ z, z = Z.getD j' 0 := ⟨_, rfl⟩
                rw [← hzz] at cz HFG
                have hjn : j' < zn := by omega
                have hjn2 : (j' : Int) < (zn : Int) := by omega
                have hj0 : (0 : Int) ≤ (j' : Int) := by omega
                have hjj : ((j' + 1 : Nat) : Int) - 1 = (j' : Int) := by omega
                rw [hjj]
                obtain ⟨f0, hf0⟩ : ∃ f, f = firstG (k + 1) (Z.drop (j' + 1)) := ⟨_, rfl⟩
                rw [← hf0] at HFG ⊢
                clear hzz hjl hf0 hjj
                by_cases hb : k + 1 ≤ zz
                · have hbi : (k : Int) + 1 ≤ (zz : Int) := by omega
                  rw [if_pos hb] at HFG
                  clear hb
                  go_wp2_with fail
                  go_roundw
                  case rel => exact ⟨j', by omega, by go_num, by rw [HFG.out], by first | exact Lib.hid rfl | exact Lib.hid trivial⟩
                  case measure => (try simp [intOf]) <;> omega
                · have hbi : ¬ (k : Int) + 1 ≤ (zz : Int) := by omega
                  rw [if_neg hb] at HFG
                  clear hb
                  go_wp2_with fail
                  go_roundw
                  case rel => exact ⟨j', by omega, by go_num, by rw [HFG.out], by first | exact Lib.hid rfl | exact Lib.hid trivial⟩
                  case measure => (try simp [intOf]) <;> omega
          · have hiq : i = qn := by omega
            have hni : ¬ (i : Int) < (qn : Int) := by omega
            have hsx := SX.out
            rw [hiq, HQN.out, List.take_length, ← HCC.out, ← HDD.out] at hsx
            have HSX := Lib.hid hsx
            clear hsx hiq hli SX OI SZ
            have HL1 := Lib.hid (lsts_same (cc.map toZ) (some ⟨gs, 0, none⟩) (some ⟨gc, 0, none⟩) S S S wr (by rw [List.length_map, HSLC.out]) (by rw [List.length_map, HSLC.out]; unfold maxLen; omega) HSX.out.s.pp HSX.out.c.pp)
            go_wp2_with fail
            refine HL1.out.mono ?_
            rintro e w13 ⟨rfl, n13, hw13⟩
            have B13 := Lib.hid (show Below wr.heap.size wr w13 by rw [hw13]; exact ⟨rfl, rfl, rfl, Nat.le_refl _, fun _ _ => rfl⟩)
            clear hw13 HL1
            have SY := Lib.hid (HSX.out.below B13.out)
            have HL2 := Lib.hid (lsts_same (dd.map toZ) (some ⟨gt, 0, none⟩) (some ⟨gd, 0, none⟩) T T T w13 (by rw [List.length_map, HTLD.out]) (by rw [List.length_map, HTLD.out]; unfold maxLen; omega) SY.out.t.pp SY.out.d.pp)
            go_wp2_with fail
            refine HL2.out.mono ?_
            rintro e w14 ⟨rfl, n14, hw14⟩
            have B14 := Lib.hid (show Below w13.heap.size w13 w14 by rw [hw14]; exact ⟨rfl, rfl, rfl, Nat.le_refl _, fun _ _ => rfl⟩)
            have HB := Lib.hid (SY.out.below B14.out).j.bel
            clear hw14 HL2
            go_wp2_with fail
            refine (sane14_any w14).mono ?_
            rintro e wz ⟨rfl, BZ⟩
            have HZ := Lib.hid (HB.out.trans (BZ.mono HB.out.size))
            clear BZ
            go_wp2_with fail
            go_ret
            exact ⟨rfl, HZ.out⟩
theorem stp_law (a : Option Addr) (len cap : Nat) (zs : List Int) (n0 : Int) (hn1 : -9223372036854775808 ≤ n0) (hn2 : n0 ≤ 9223372036854775807) (w : World) (h : IsRow .i64 w a len cap zs) :
    Calls Try.prog 10 #[.slice a len cap, .int .i64 n0] w fun e w' => e = .returned (.bool true) ∧ Below w.heap.size w w' := by
  obtain ⟨l, rfl, h1, h2, h3⟩ := h.row
  exact stp_walk a cap l w h1 h2 h3 n0 hn1 hn2
end Go.Proofs.Ytkopbnppjhdbgaa
