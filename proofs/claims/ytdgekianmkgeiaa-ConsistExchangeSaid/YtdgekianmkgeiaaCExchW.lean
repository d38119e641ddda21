/-
  Stage 6: the walk of ConsistExchange.
-/
import Derived.Test.YtdgekianmkgeiaaCOneW
set_option linter.unusedSimpArgs false
set_option linter.unusedVariables false
namespace Go.Proofs.Ytdgekianmkgeiaa
open Go.RowKit

/-- Two bytes that differ are exchanged: the last two bytes are no longer the check sum. -/
theorem exch_turned {l : List Wag} {L i k : Nat} (hL : L = (enc l).length) (h3 : 3 ≤ L) (h165 : L ≤ 165) (hi : i < L - 2) (hk : k < L - 2) (hik : i ≠ k) (hz : 0 ≤ (enc l).getD i 0 ∧ (enc l).getD i 0 ≤ 255) (hy : 0 ≤ (enc l).getD k 0 ∧ (enc l).getD k 0 ≤ 255) (hne : (enc l).getD k 0 ≠ (enc l).getD i 0) :
    (((enc l).set i ((enc l).getD k 0)).set k ((enc l).getD i 0)).getD (L - 2) 0 * 256 + (((enc l).set i ((enc l).getD k 0)).set k ((enc l).getD i 0)).getD (L - 1) 0 ≠ chk ((((enc l).set i ((enc l).getD k 0)).set k ((enc l).getD i 0)).take (L - 2)) := by
  have hs := enc_sum (l := l)
  rw [← hL] at hs
  have hi' : i < (enc l).length := by omega
  have hk' : k < ((enc l).set i ((enc l).getD k 0)).length := by rw [List.length_set]; omega
  rw [chk_take (by rw [List.length_set, List.length_set]; omega), sumW_set _ _ _ _ hk', sumW_set _ _ _ _ hi', getD_set _ _ _ _ hk', getD_set _ _ _ _ hk', getD_set _ _ _ _ hi', getD_set _ _ _ _ hi', getD_set _ _ _ _ hi']
  rw [if_neg (by omega), if_neg (by omega), if_neg (by omega), if_neg (by omega), if_pos hi, if_pos hk, if_neg (Ne.symm hik), hs]
  have e : ((i : Int) + 1) * ((enc l).getD k 0 - (enc l).getD i 0) + ((k : Int) + 1) * ((enc l).getD i 0 - (enc l).getD k 0) = ((i : Int) - (k : Int)) * ((enc l).getD k 0 - (enc l).getD i 0) := by
    generalize (enc l).getD k 0 = x
    generalize (enc l).getD i 0 = y
    rw [show y - x = -(x - y) by omega, Int.mul_neg, ← Int.sub_eq_add_neg, ← Int.sub_mul]
    congr 1
    omega
  rw [Int.add_assoc, e]
  have hd : ((i : Int) - (k : Int)) * ((enc l).getD k 0 - (enc l).getD i 0) ≠ 0 ∧ -51000 ≤ ((i : Int) - (k : Int)) * ((enc l).getD k 0 - (enc l).getD i 0) ∧ ((i : Int) - (k : Int)) * ((enc l).getD k 0 - (enc l).getD i 0) ≤ 51000 := by
    by_cases hlt : k < i
    · exact prod_bd (by omega) (by omega) (by omega) (by omega) (by omega)
    · have := prod_bd (k := (k : Int) - (i : Int)) (e := (enc l).getD k 0 - (enc l).getD i 0) (by omega) (by omega) (by omega) (by omega) (by omega)
      rw [show (k : Int) - (i : Int) = -((i : Int) - (k : Int)) by omega, Int.neg_mul] at this
      omega
  generalize ((i : Int) - (k : Int)) * ((enc l).getD k 0 - (enc l).getD i 0) = P at *
  omega
set_option maxHeartbeats 1600000 in
theorem exch_walk (t : Option Addr) (len cap : Nat) (zs : List Int) (p_ r_ : Int) (w : World) (h : IsRow .i64 w t len cap zs) (a1 : -9223372036854775808 ≤ p_) (a2 : p_ ≤ 9223372036854775807) (b1 : -9223372036854775808 ≤ r_) (b2 : r_ ≤ 9223372036854775807) :
    Calls Try.prog 6 #[.slice t len cap, .int .i64 p_, .int .i64 r_] w fun e w' => e = .returned (.bool true) ∧ Below w.heap.size w w' := by
  obtain ⟨i0, hi, hz0, hz1, hz2⟩ := info_parts infoByte
  have K0 := Lib.hid (mk_new (T := 53) h)
  clear h
  go_enter Try.func6, Try.ntmps6
  go_wp2_with fail
  refine (new_any t len cap w).mono ?_
  rintro e w1 ⟨rfl, e1⟩
  have HB1 := Lib.hid (show Below w.heap.size w w1 by rw [e1]; exact (Below.refl _ _).alloc (Nat.le_refl _) _)
  have K1 := Lib.hid (show IsMk w1 w.heap.size 0 by rw [e1]; exact K0.out)
  clear e1 K0
  go_wp2_with fail
  refine (mwagons_any w.heap.size 0 6 w1 K1.out (by decide) (by decide)).mono ?_
  rintro e w2 ⟨v2, l, rfl, O2, hl6, hmade, K2, M2⟩
  have HB2 := Lib.hid (M2.below HB1.out (Nat.le_refl _) HB1.out.size)
  have HV := Lib.hid (hmade.valid (by omega))
  have HBY := Lib.hid (bytesL_bd (l := l) (validL_zero.1 HV.out).2.1)
  have HL6 := Lib.hid hl6
  obtain ⟨A, c, rfl, R, _⟩ := O2.full
  have HR := Lib.hid R
  clear K2 M2 O2 R hmade hl6 K1 HB1
  go_wp2_with fail
  refine (enc_at HV.out A c w2 HR.out).mono ?_
  rintro e w3 ⟨v3, rfl, O3, B3⟩
  have HB3 := Lib.hid (HB2.out.trans (B3.mono HB2.out.size))
  obtain ⟨A3, c3, rfl, R3, hcap3, _⟩ := O3.slice
  have HR3 := Lib.hid R3
  have HE := Lib.hid (enc_bd HV.out)
  obtain ⟨L, hL⟩ : ∃ L, L = (enc l).length := ⟨_, rfl⟩
  have HL := Lib.hid hL
  have hL3 : 3 ≤ L := by rw [hL, enc_len]; omega
  have hL165 : L ≤ 165 := by rw [hL, enc_len]; have := HBY.out.2; have := HL6.out; omega
  rw [← hL]
  have q0 : ¬ (L : Int) < 3 := by omega
  obtain ⟨n, hn⟩ : ∃ n, n = L - 2 := ⟨_, rfl⟩
  have hn2 : (L : Int) - 2 = (n : Int) := by omega
  have hn1 : 1 ≤ n := by omega
  have q1 : ((n : Int) == 0) = false := beq_eq_false_iff_ne.2 (by omega)
  have q2 : ((L : Int) - 2 == 0) = false := beq_eq_false_iff_ne.2 (by omega)
  have hwn : wrap64 ((L : Int) - 2) = (n : Int) := by rw [hn2]; exact IntWalk.wrap64_in _ (by omega)
  obtain ⟨m1, m2⟩ := tmod_in p_ (n : Int) (by omega)
  obtain ⟨m3, m4⟩ := tmod_in r_ (n : Int) (by omega)
  have HN := Lib.hid hn
  clear B3 O3 R3 hL hn
  go_upto_region 6 with fail
  go_quiet (fail)
  obtain ⟨i, hi2⟩ : ∃ i : Nat, (p_.tmod (n : Int) + (n : Int)) % (n : Int) = i := ⟨((p_.tmod (n : Int) + (n : Int)) % (n : Int)).toNat, by have := Int.emod_nonneg (p_.tmod (n : Int) + (n : Int)) (show (n : Int) ≠ 0 by omega); omega⟩
  have hiL : (i : Int) < (n : Int) := by rw [← hi2]; exact Int.emod_lt_of_pos _ (by omega)
  obtain ⟨k, hk2⟩ : ∃ k : Nat, (r_.tmod (n : Int) + (n : Int)) % (n : Int) = k := ⟨((r_.tmod (n : Int) + (n : Int)) % (n : Int)).toNat, by have := Int.emod_nonneg (r_.tmod (n : Int) + (n : Int)) (show (n : Int) ≠ 0 by omega); omega⟩
  have hkL : (k : Int) < (n : Int) := by rw [← hk2]; exact Int.emod_lt_of_pos _ (by omega)
  rw [hi2, hk2]
  have hiL2 : (i : Int) < (L : Int) := by omega
  have hkL2 : (k : Int) < (L : Int) := by omega
  have HRq := Lib.hid (show Row .u8 (w3.drewN nq) (w3.drewN nq).heap.size A3 (enc l) from HR3.out.drewN nq)
  have HBq := Lib.hid (bdn (n := nq) HB3.out)
  generalize w3.drewN nq = wq at *
  have O3' := Lib.hid (own_empty (w := wq) (e := 5) (m := 1) (base := wq.heap.size) (Nat.le_refl _))
  have R3' := Lib.hid (HRq.out.below ((Below.refl wq.heap.size wq).alloc (Nat.le_refl _) (.cells #[] 5)))
  have hA3 : A3 = none → L = 0 ∧ c3 = 0 := fun e => by
    subst e
    obtain ⟨ad, e, _⟩ := HR3.out 0 (by rw [← HL.out]; omega)
    cases e
  have HA3 := Lib.hid hA3
  have HX := Lib.hid (Nat.le_trans hL165 (by decide : 165 ≤ 1000))
  clear hi2 hk2 hA3 m1 m2 m3 m4 q1 q2 hwn hn2
  go_wp2_with (first | (at_builtin; refine wpList_app_src rfl (.tmp 46) (.tmp 47) 24 rfl wq.heap.size 5 i0 (.int .u8 0) 1 1 Try.underlying24 hi hz0 hz1 hz2 rfl (by decide) _ 0 [] rfl O3'.out A3 L c3 ((enc l).map (Value.int .u8)) rfl HA3.out (by rw [List.length_map, ← HL.out, Nat.mul_one]) (R3'.out.newsO) one_cells (by unfold maxLen; have := HX.out; omega) (by have := HX.out; omega) (by simp only [World.size_alloc]; omega) ?_; intro v4 w4 O4 G4))
  have HO4 := Lib.hid (show Own .u8 5 w4 wq.heap.size v4 (enc l) from by have := O4; rw [Nat.zero_add, HL.out] at this; exact this)
  obtain ⟨A4, c4, hv4, R4, hc4, _, hg4⟩ := HO4.out.slice
  obtain ⟨g, rfl, hg1, hg2⟩ := hg4 (by rw [← HL.out]; omega)
  rw [← HL.out] at hv4
  subst hv4
  have HB4 := Lib.hid (show Below w.heap.size w w4 from HBq.out.trans ((((Below.refl wq.heap.size wq).alloc (Nat.le_refl _) (.cells #[] 5)).grown G4 (by simp only [World.size_alloc]; omega) (fun j hj => Nat.le_of_eq (Option.some.inj (show some wq.heap.size = some j from hj)))).mono HBq.out.size))
  have HG1 := Lib.hid (Nat.le_trans HBq.out.size hg1)
  have ci := Own.cell HO4.out HL.out i (by rw [← HL.out]; omega)
  have fi := Own.frozen HO4.out HL.out i
  have ck := Own.cell HO4.out HL.out k (by rw [← HL.out]; omega)
  have fk := Own.frozen HO4.out HL.out k
  obtain ⟨zi1, zi2⟩ := HE.out.1.at_ i
  obtain ⟨zk1, zk2⟩ := HE.out.1.at_ k
  obtain ⟨zi, hzi⟩ : ∃ z, z = (enc l).getD i 0 := ⟨_, rfl⟩
  obtain ⟨zk, hzk⟩ : ∃ z, z = (enc l).getD k 0 := ⟨_, rfl⟩
  have HZI := Lib.hid hzi
  have HZK := Lib.hid hzk
  rw [← hzi] at ci zi1 zi2
  rw [← hzk] at ck zk1 zk2
  clear hzi hzk O4 G4 R4 hg4
  by_cases hik : i = k
  · subst hik
    have hzz : zk = zi := HZK.out.trans HZI.out.symm
    subst hzz
    go_upto_region 8 with fail
    go_region
    have c5 := Own.cell (Own.store (Own.store HO4.out HL.out i zk) (by rw [List.length_set]; exact HL.out) i zk) (by rw [List.length_set, List.length_set]; exact HL.out) i (by rw [List.length_set, List.length_set, ← HL.out]; omega)
    rw [getD_set _ _ _ _ (by rw [List.length_set, ← HL.out]; omega), if_pos rfl] at c5
    have HB5 := Lib.hid ((HB4.out.setCell (p := ⟨g, i, none⟩) HG1.out (.int .u8 zk)).setCell (p := ⟨g, i, none⟩) HG1.out (.int .u8 zk)).drew
    clear ci ck fi fk
    generalize (w4.setCell ⟨g, i, none⟩ (.int .u8 zk)).setCell ⟨g, i, none⟩ (.int .u8 zk) = w5 at *
    have c6 : w5.drew.cell? ⟨g, i, none⟩ = some (.int .u8 zk) := c5
    have ev : (zk == zk) = true := beq_self_eq_true zk
    generalize w5.drew = w6 at *
    go_upto_region 9 with fail
    go_quiet (fail)
    have HB6 := Lib.hid (bdn (n := nq) HB5.out)
    go_wp2_with fail
    refine (sane_any _).mono ?_
    rintro e w7 ⟨rfl, B7⟩
    go_wp2_with fail
    go_ret
    exact ⟨rfl, HB6.out.trans (B7.mono HB6.out.size)⟩
  · go_upto_region 8 with fail
    go_region
    have O5 := Own.store (Own.store HO4.out HL.out i zk) (by rw [List.length_set]; exact HL.out) k zi
    have hlen5 : (((enc l).set i zk).set k zi).length = L := by rw [List.length_set, List.length_set, ← HL.out]
    have hil : i < (enc l).length := by rw [← HL.out]; omega
    have hkl : k < ((enc l).set i zk).length := by rw [List.length_set, ← HL.out]; omega
    have c5 := Own.cell O5 hlen5.symm i (by rw [hlen5]; omega)
    have c6 := Own.cell O5 hlen5.symm k (by rw [hlen5]; omega)
    rw [getD_set _ _ _ _ hkl, if_neg hik, getD_set _ _ _ _ hil, if_pos rfl] at c5
    rw [getD_set _ _ _ _ hkl, if_pos rfl] at c6
    have B5 : BB (((enc l).set i zk).set k zi) := fun x hx => by
      rcases List.mem_or_eq_of_mem_set hx with h | h
      · rcases List.mem_or_eq_of_mem_set h with h | h
        · exact HE.out.1 x h
        · subst h; exact ⟨zk1, zk2⟩
      · subst h; exact ⟨zi1, zi2⟩
    obtain ⟨A5, c5', e5, R5, hc5⟩ := Own.brow O5 B5 (by rw [hlen5]; omega)
    have hcap5 := Own.cap O5
    injection e5 with e5 e6 e7
    subst e5; subst e7
    have HR5 := Lib.hid R5
    have HB5 := Lib.hid ((HB4.out.setCell (p := ⟨g, i, none⟩) HG1.out (.int .u8 zk)).setCell (p := ⟨g, k, none⟩) HG1.out (.int .u8 zi)).drew
    have HC5 := Lib.hid (show L ≤ c4 ∧ c4 ≤ maxLen from ⟨by rw [← hlen5]; exact hc5, hcap5⟩)
    clear ci ck fi fk O5 R5 e6
    generalize (w4.setCell ⟨g, i, none⟩ (.int .u8 zk)).setCell ⟨g, k, none⟩ (.int .u8 zi) = w5 at *
    have HRd := Lib.hid (show BRow w5.drew (some ⟨g, 0, none⟩) (((enc l).set i zk).set k zi) from HR5.out.drewN 1)
    have c7 : w5.drew.cell? ⟨g, i, none⟩ = some (.int .u8 zk) := c5
    have c8 : w5.drew.cell? ⟨g, k, none⟩ = some (.int .u8 zi) := c6
    clear HR5 c5 c6
    generalize w5.drew = w6 at *
    by_cases hz : zk = zi
    · have ev : (zk == zi) = true := beq_iff_eq.2 hz
      clear hz
      go_upto_region 9 with fail
      go_quiet (fail)
      have HB6 := Lib.hid (bdn (n := nq) HB5.out)
      go_wp2_with fail
      refine (sane_any _).mono ?_
      rintro e w7 ⟨rfl, B7⟩
      go_wp2_with fail
      go_ret
      exact ⟨rfl, HB6.out.trans (B7.mono HB6.out.size)⟩
    · have ev : (zk == zi) = false := beq_eq_false_iff_ne.2 hz
      have HT := Lib.hid (exch_turned (l := l) HL.out hL3 hL165 (by have := HN.out; omega) (by have := HN.out; omega) hik (HE.out.1.at_ i) (HE.out.1.at_ k) (by rw [← HZI.out, ← HZK.out]; exact hz))
      rw [← HZI.out, ← HZK.out] at HT
      obtain ⟨bs, hbs⟩ : ∃ bs, bs = ((enc l).set i zk).set k zi := ⟨_, rfl⟩
      rw [← hbs] at HT HRd hlen5
      have HLB := Lib.hid hlen5
      have hend : ∀ m, Calls Try.prog 23 #[.slice (some ⟨g, 0, none⟩) L c4] (w6.drewN m) fun e w' => e = .returned (.int .i64 (endR bs)) ∧ w6.drewN m = w' := fun m => by
        have := rend_any (some ⟨g, 0, none⟩) c4 bs (w6.drewN m) (HRd.out.drewN m)
        rwa [HLB.out] at this
      have HEND := Lib.hid hend
      clear hz hbs hlen5 hend B5 hik
      go_upto_region 9 with fail
      go_quiet ((go_at_call 23; exact Calls.quiet_of_same ((HEND.out _).mono fun _ _ h => ⟨h.1, h.2.symm⟩)))
      have HB6 := Lib.hid (bdn (n := nq) HB5.out)
      have HRq2 := Lib.hid (HRd.out.drewN nq)
      generalize w6.drewN nq = w7 at *
      by_cases hE : endR bs = (L : Int)
      · have HEQ := Lib.hid (show endR bs = (bs.length : Int) by rw [hE, HLB.out])
        have ev2 : (endR bs != (L : Int)) = false := bne_eq_false_iff_eq.2 hE
        have HD := Lib.hid (dec_sum HEQ.out (by rw [HLB.out]; exact HT.out))
        clear hE
        go_wp2_with fail
        have hdec := dec_bad HD.out (some ⟨g, 0, none⟩) c4 w7 HRq2.out (by rw [HLB.out]; exact HC5.out)
        rw [HLB.out] at hdec
        refine hdec.mono ?_
        rintro e w8 ⟨⟨v6, rfl⟩, B8⟩
        have HB8 := Lib.hid (HB6.out.trans (B8.mono HB6.out.size))
        clear hdec B8
        go_wp2_with fail
        refine (sane_any _).mono ?_
        rintro e w9 ⟨rfl, B9⟩
        go_wp2_with fail
        go_ret
        exact ⟨rfl, HB8.out.trans (B9.mono HB8.out.size)⟩
      · have ev2 : (endR bs != (L : Int)) = true := bne_iff_ne.2 hE
        clear hE
        go_wp2_with fail
        refine (sane_any _).mono ?_
        rintro e w9 ⟨rfl, B9⟩
        go_wp2_with fail
        go_ret
        exact ⟨rfl, HB6.out.trans (B9.mono HB6.out.size)⟩
end Go.Proofs.Ytdgekianmkgeiaa
