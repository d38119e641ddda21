/-
  Stage 6: the walk of ConsistOneByte.
-/
import Derived.Test.YtdgekianmkgeiaaCEnd
import Derived.Test.YtdgekianmkgeiaaCSane
import Derived.Test.YtdgekianmkgeiaaCMkL
import Derived.Test.YtdgekianmkgeiaaSrc
set_option linter.unusedSimpArgs false
set_option linter.unusedVariables false
namespace Go.Proofs.Ytdgekianmkgeiaa
open Go.RowKit

theorem enc_at {l : List Wag} (h : validL l = 0) (A : Option Addr) (c : Nat) (w : World) (R : RRow WR w A l) :
    Calls Try.prog 19 #[.slice A l.length c] w fun e w' => ∃ v, e = .returned (.tuple #[v, .int .i64 0]) ∧ Own .u8 5 w' w.heap.size v (enc l) ∧ Below w.heap.size w w' := by
  refine (penc_any l A c w R).mono ?_
  rintro e w' ⟨v, rfl, O, B⟩
  rw [encR_ok h] at O ⊢
  exact ⟨v, rfl, O, B⟩
theorem enc_len {l : List Wag} : (enc l).length = (bytesL l).length + 3 := by
  unfold enc encB pair
  rw [List.length_append, List.length_cons]
  rfl
theorem Own.cap {k : IntKind} {e : TypeId} {w : World} {base : Nat} {A : Option Addr} {n c : Nat} {zs : List Int} (h : Own k e w base (.slice A n c) zs) : c ≤ maxLen := by
  rcases h.2 with ⟨e1, _⟩ | ⟨g, cap, cur, e1, _, _, _, h5, _⟩
  · injection e1 with _ _ e2; subst e2; exact Nat.zero_le _
  · injection e1 with _ _ e2; subst e2; exact h5
theorem prod_bd {k e : Int} (h1 : 1 ≤ k) (h2 : k ≤ 200) (h3 : e ≠ 0) (h4 : -255 ≤ e) (h5 : e ≤ 255) : k * e ≠ 0 ∧ -51000 ≤ k * e ∧ k * e ≤ 51000 := by
  by_cases h : 0 < e
  · have p1 := Int.mul_pos (show 0 < k by omega) h
    have p2 := (mul_bd (k := k) (c := e) (by omega) (by omega) h5).2
    omega
  · have p1 := Int.mul_pos (show 0 < k by omega) (show 0 < -e by omega)
    have p2 := (mul_bd (k := k) (c := -e) (by omega) (by omega) (by omega)).2
    rw [Int.mul_neg] at p1 p2
    omega
/-- The last two bytes of an encoding, and its check sum. -/
theorem enc_sum {l : List Wag} : (enc l).getD ((enc l).length - 2) 0 * 256 + (enc l).getD ((enc l).length - 1) 0 = sumW (enc l) ((enc l).length - 2) % 65521 := by
  have hc := chk_bd' (encB l)
  have hl : (enc l).length = (encB l).length + 2 := by unfold enc pair; rw [List.length_append]; rfl
  have e1 : (enc l).getD (encB l).length 0 = chk (encB l) / 256 := by
    unfold enc pair
    rw [List.getD_eq_getElem?_getD, List.getElem?_append_right (Nat.le_refl _), Nat.sub_self]; rfl
  have e2 : (enc l).getD ((encB l).length + 1) 0 = chk (encB l) % 256 := by
    unfold enc pair
    rw [List.getD_eq_getElem?_getD, List.getElem?_append_right (by omega), show (encB l).length + 1 - (encB l).length = 1 by omega]; rfl
  rw [hl, show (encB l).length + 2 - 2 = (encB l).length by omega, show (encB l).length + 2 - 1 = (encB l).length + 1 by omega, e1, e2]
  have e3 : (enc l).take (encB l).length = encB l := by unfold enc; exact List.take_left
  have e4 := chk_take (bs := enc l) (n := (encB l).length) (by omega)
  rw [e3] at e4
  omega
/-- A byte that is turned: the last two bytes are no longer the check sum. -/
theorem one_turned {l : List Wag} {L i : Nat} {y : Int} (hL : L = (enc l).length) (h3 : 3 ≤ L) (h165 : L ≤ 165) (hi : i < L) (hz : 0 ≤ (enc l).getD i 0 ∧ (enc l).getD i 0 ≤ 255) (hy : 0 ≤ y ∧ y ≤ 255) (hne : y ≠ (enc l).getD i 0) :
    ((enc l).set i y).getD (L - 2) 0 * 256 + ((enc l).set i y).getD (L - 1) 0 ≠ chk (((enc l).set i y).take (L - 2)) := by
  have hs := enc_sum (l := l)
  rw [← hL] at hs
  have hi' : i < (enc l).length := by omega
  rw [chk_take (by rw [List.length_set]; omega), sumW_set _ _ _ _ hi', getD_set _ _ _ _ hi', getD_set _ _ _ _ hi']
  by_cases h1 : i < L - 2
  · rw [if_pos h1, if_neg (by omega), if_neg (by omega), hs]
    obtain ⟨p1, p2, p3⟩ := prod_bd (k := (i : Int) + 1) (e := y - (enc l).getD i 0) (by omega) (by omega) (by omega) (by omega) (by omega)
    generalize ((i : Int) + 1) * (y - (enc l).getD i 0) = P at *
    omega
  · rw [if_neg h1]
    by_cases h2 : i = L - 2
    · subst h2
      rw [if_pos rfl, if_neg (by omega)]
      omega
    · have h4 : i = L - 1 := by omega
      subst h4
      rw [if_neg (by omega), if_pos rfl]
      omega
set_option maxHeartbeats 1600000 in
theorem one_walk (t : Option Addr) (len cap : Nat) (zs : List Int) (at_ by_ : Int) (w : World) (h : IsRow .i64 w t len cap zs) (a1 : -9223372036854775808 ≤ at_) (a2 : at_ ≤ 9223372036854775807) (b1 : -9223372036854775808 ≤ by_) (b2 : by_ ≤ 9223372036854775807) :
    Calls Try.prog 5 #[.slice t len cap, .int .i64 at_, .int .i64 by_] w fun e w' => e = .returned (.bool true) ∧ Below w.heap.size w w' := by
  obtain ⟨i0, hi, hz0, hz1, hz2⟩ := info_parts infoByte
  have K0 := Lib.hid (mk_new (T := 53) h)
  clear h
  go_enter Try.func5, Try.ntmps5
  go_wp2_with fail
  refine (new_any t len cap w).mono ?_
  rintro e w1 ⟨rfl, e1⟩
  have HB1 := Lib.hid (show Below w.heap.size w w1 by rw [e1]; exact (Below.refl _ _).alloc (Nat.le_refl _) _)
  have K1 := Lib.hid (show IsMk w1 w.heap.size 0 by rw [e1]; exact K0.out)
  clear e1 K0
  go_wp2_with fail
  refine (mwagons_any w.heap.size 0 6 w1 K1.out (by decide) (by decide)).mono ?_
  rintro e w2 ⟨v2, l, rfl, O2, hl6, hmade, K2, M2⟩
  have HB2 := Lib.hid (M2.below HB1.out (Nat.le_refl _) HB1.out.size)
  have HV := Lib.hid (hmade.valid (by omega))
  have HBY := Lib.hid (bytesL_bd (l := l) (validL_zero.1 HV.out).2.1)
  have HL6 := Lib.hid hl6
  obtain ⟨A, c, rfl, R, _⟩ := O2.full
  have HR := Lib.hid R
  clear K2 M2 O2 R hmade hl6 K1 HB1
  go_wp2_with fail
  refine (enc_at HV.out A c w2 HR.out).mono ?_
  rintro e w3 ⟨v3, rfl, O3, B3⟩
  have HB3 := Lib.hid (HB2.out.trans (B3.mono HB2.out.size))
  obtain ⟨A3, c3, rfl, R3, hcap3, _⟩ := O3.slice
  have HR3 := Lib.hid R3
  have HE := Lib.hid (enc_bd HV.out)
  obtain ⟨L, hL⟩ : ∃ L, L = (enc l).length := ⟨_, rfl⟩
  have HL := Lib.hid hL
  have hL3 : 3 ≤ L := by rw [hL, enc_len]; omega
  have hL165 : L ≤ 165 := by rw [hL, enc_len]; have := HBY.out.2; have := HL6.out; omega
  rw [← hL]
  have q0 : ¬ (L : Int) < 3 := by omega
  have q1 : ((L : Int) == 0) = false := beq_eq_false_iff_ne.2 (by omega)
  have m1 := tmod_in at_ (L : Int) (by omega)
  obtain ⟨m1, m2⟩ := m1
  clear B3 O3 R3 hL
  go_upto_region 6 with fail
  obtain ⟨i, hi2⟩ : ∃ i : Nat, (at_.tmod (L : Int) + (L : Int)) % (L : Int) = i := ⟨((at_.tmod (L : Int) + (L : Int)) % (L : Int)).toNat, by have := Int.emod_nonneg (at_.tmod (L : Int) + (L : Int)) (show (L : Int) ≠ 0 by omega); omega⟩
  have hiL : (i : Int) < (L : Int) := by rw [← hi2]; exact Int.emod_lt_of_pos _ (by omega)
  rw [hi2]
  obtain ⟨y, hy⟩ : ∃ y, by_.tmod 255 = y := ⟨_, rfl⟩
  have hy1 := tmod_in by_ 255 (by decide)
  rw [hy] at hy1
  obtain ⟨hy1, hy2⟩ := hy1
  obtain ⟨d, hd⟩ : ∃ d, d = 1 + (y + 255) % 255 := ⟨_, rfl⟩
  have hd1 : 1 ≤ d := by omega
  have hd2 : d ≤ 255 := by omega
  have hd3 : 1 + (y + 255) % 255 = d := hd.symm
  have hd4 : 1 + y % 255 = d := by omega
  have O3' := Lib.hid (own_empty (w := w3) (e := 5) (m := 1) (base := w3.heap.size) (Nat.le_refl _))
  have R3' := Lib.hid (HR3.out.below ((Below.refl w3.heap.size w3).alloc (Nat.le_refl _) (.cells #[] 5)))
  have hA3 : A3 = none → L = 0 ∧ c3 = 0 := fun e => by
    subst e
    obtain ⟨ad, e, _⟩ := HR3.out 0 (by rw [← HL.out]; omega)
    cases e
  have HA3 := Lib.hid hA3
  have HX := Lib.hid (Nat.le_trans hL165 (by decide : 165 ≤ 1000))
  clear hi2 hd hA3 m1 m2 q1
  go_wp2_with (first | (at_builtin; refine wpList_app_src rfl (.tmp 38) (.tmp 39) 24 rfl w3.heap.size 5 i0 (.int .u8 0) 1 1 Try.underlying24 hi hz0 hz1 hz2 rfl (by decide) _ 0 [] rfl O3'.out A3 L c3 ((enc l).map (Value.int .u8)) rfl HA3.out (by rw [List.length_map, ← HL.out, Nat.mul_one]) (R3'.out.newsO) one_cells (by unfold maxLen; have := HX.out; omega) (by have := HX.out; omega) (by simp only [World.size_alloc]; omega) ?_; intro v4 w4 O4 G4; have HO4 := Lib.hid (show Own .u8 5 w4 w3.heap.size v4 (enc l) from by have := O4; rw [Nat.zero_add, HL.out] at this; exact this); obtain ⟨A4, c4, hv4, R4, hc4, _, hg4⟩ := HO4.out.slice; obtain ⟨g, rfl, hg1, hg2⟩ := hg4 (by rw [← HL.out]; omega); rw [← HL.out] at hv4; subst hv4; have cg := Own.cell HO4.out HL.out i (by rw [← HL.out]; omega); have fg := Own.frozen HO4.out HL.out i; have zb := (HE.out.1.at_ i); obtain ⟨zb1, zb2⟩ := zb; obtain ⟨z, hz⟩ : ∃ z, z = (enc l).getD i 0 := ⟨_, rfl⟩; rw [← hz] at cg zb1 zb2; have wz : IntKind.u8.wrap (z + d) = (z + d) % 256 := IntKind.wrap_u8 _; have wd : IntKind.u8.wrap d = d := IntWalk.u8_in _ (by omega); have HG4 := Lib.hid G4; have HZ := Lib.hid hz; clear O4 G4 R4 hz))
  have HB4 := Lib.hid (show Below w.heap.size w w4 from HB3.out.trans ((((Below.refl w3.heap.size w3).alloc (Nat.le_refl _) (.cells #[] 5)).grown HG4.out (by simp only [World.size_alloc]; omega) (fun j hj => Nat.le_of_eq (Option.some.inj (show some w3.heap.size = some j from hj)))).mono HB3.out.size))
  have HG1 := Lib.hid (Nat.le_trans HB3.out.size hg1)
  obtain ⟨y2, hy2'⟩ : ∃ y2, y2 = (z + d) % 256 := ⟨_, rfl⟩
  have yb1 : 0 ≤ y2 := by omega
  have yb2 : y2 ≤ 255 := by omega
  have yne : y2 ≠ z := by omega
  rw [← hy2']
  have O5 := Own.store HO4.out HL.out i y2
  have hlen5 : ((enc l).set i y2).length = L := by rw [List.length_set, ← HL.out]
  have B5 : BB ((enc l).set i y2) := fun x hx => by
    rcases List.mem_or_eq_of_mem_set hx with h | h
    · exact HE.out.1 x h
    · subst h; exact ⟨yb1, yb2⟩
  obtain ⟨A5, c5, e5, R5, hc5⟩ := Own.brow O5 B5 (by rw [hlen5]; omega)
  have hcap5 := Own.cap O5
  injection e5 with e5 e6 e7
  subst e5; subst e7
  have HR5 := Lib.hid R5
  have HB5 := Lib.hid (HB4.out.setCell (p := ⟨g, i, none⟩) HG1.out (.int .u8 y2))
  have HT := Lib.hid (one_turned (l := l) (y := y2) HL.out hL3 hL165 (by omega) (HE.out.1.at_ i) ⟨yb1, yb2⟩ (by rw [← HZ.out]; exact yne))
  have HC5 := Lib.hid (show L ≤ c4 ∧ c4 ≤ maxLen from ⟨by rw [← hlen5]; exact hc5, hcap5⟩)
  obtain ⟨bs, hbs⟩ : ∃ bs, bs = (enc l).set i y2 := ⟨_, rfl⟩
  rw [← hbs] at HT HR5 hlen5
  have HLB := Lib.hid hlen5
  generalize w4.setCell ⟨g, i, none⟩ (.int .u8 y2) = w5 at *
  have hend := rend_any (some ⟨g, 0, none⟩) c4 bs w5 HR5.out
  rw [hlen5] at hend
  refine hend.mono ?_
  rintro e w' ⟨rfl, rfl⟩
  clear hend O5 B5 R5 cg fg wz wd hy hy1 hy2 hd1 hd2 hd3 hd4 hbs hlen5 hy2' yne e6 hc5
  by_cases hE : endR bs = (L : Int)
  · have HEQ := Lib.hid (show endR bs = (bs.length : Int) by rw [hE, HLB.out])
    have ev : (endR bs != (L : Int)) = false := bne_eq_false_iff_eq.2 hE
    have HD := Lib.hid (dec_sum HEQ.out (by rw [HLB.out]; exact HT.out))
    clear hE
    go_wp2_with fail
    have hdec := dec_bad HD.out (some ⟨g, 0, none⟩) c4 w5 HR5.out (by rw [HLB.out]; exact HC5.out)
    rw [HLB.out] at hdec
    refine hdec.mono ?_
    rintro e w6 ⟨⟨v6, rfl⟩, B6⟩
    have HB6 := Lib.hid (HB5.out.trans (B6.mono HB5.out.size))
    clear hdec B6
    go_wp2_with fail
    refine (sane_any _).mono ?_
    rintro e w7 ⟨rfl, B7⟩
    go_wp2_with fail
    go_ret
    exact ⟨rfl, HB6.out.trans (B7.mono HB6.out.size)⟩
  · have ev : (endR bs != (L : Int)) = true := bne_iff_ne.2 hE
    clear hE
    go_wp2_with fail
    refine (sane_any _).mono ?_
    rintro e w7 ⟨rfl, B7⟩
    go_wp2_with fail
    go_ret
    exact ⟨rfl, HB5.out.trans (B7.mono HB5.out.size)⟩
end Go.Proofs.Ytdgekianmkgeiaa
