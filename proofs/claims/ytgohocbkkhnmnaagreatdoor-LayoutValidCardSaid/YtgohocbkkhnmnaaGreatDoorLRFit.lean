/-
  Stage 9: the reference's fits.
-/
import Derived.Test.YtgohocbkkhnmnaaGreatDoorLRName
import Derived.Test.YtgohocbkkhnmnaaGreatDoorTLay
set_option linter.unusedSimpArgs false
set_option linter.unusedVariables false
namespace Go.Proofs.YtgohocbkkhnmnaaGreatDoor
open Go.RowKit Go.Lib

theorem ESpelt.drewF {w : World} {ad : Addr} {x : El} (h : ESpelt w ad x) (n : Nat) : ESpelt (w.drewN n) ad x := ⟨h.c0, h.c1, h.c2, h.c3, h.c4, h.c5, h.c6, h.c7⟩
theorem EBlk.drewF {w : World} {b : Nat} {x : El} (h : EBlk w b x) (n : Nat) : EBlk (w.drewN n) b x := ⟨h.c0, h.c1, h.c2, h.c3, h.c4, h.c5, h.c6, h.c7, h.lt⟩
theorem bytes_injL {a b : ByteArray} (h : a.toList = b.toList) : a = b := by
  rw [ByteArray.toList_eq, ByteArray.toList_eq] at h
  cases a; cases b
  congr 1
  exact Array.toList_inj.1 h
theorem str_ne {a b : ByteArray} (h : a ≠ b) : (a.toList == b.toList) = false := beq_eq_false_iff_ne.2 fun e => h (bytes_injL e)
/-- Which error the place of x has. -/
theorem place_ord {l : List El} {i : Nat} {x : El} (hi : i < l.length) (h0 : x.kind ≠ 0) (h : x.par < 0 ∨ (i : Int) ≤ x.par) : placeE x (l.take i) = 12 := by
  unfold placeE
  rw [if_neg h0, if_pos (by rw [List.length_take]; omega)]
theorem place_con {l : List El} {i : Nat} {x : El} (hi : i < l.length) (h0 : x.kind ≠ 0) (h1 : 0 ≤ x.par) (h2 : x.par < i) (h : (l.getD x.par.toNat zeroE).kind = 4 ∨ ¬ (x.side ≠ 0 ↔ (l.getD x.par.toNat zeroE).kind = 3) ∨ takenE x (l.take i) = true) : placeE x (l.take i) = 17 := by
  have e : (l.take i).getD x.par.toNat zeroE = l.getD x.par.toNat zeroE := by
    rw [List.getD_eq_getElem?_getD, List.getElem?_take_of_lt (by omega), ← List.getD_eq_getElem?_getD]
  unfold placeE
  rw [if_neg h0, if_neg (by rw [List.length_take]; omega), e, if_pos h]
theorem place_ok {l : List El} {i : Nat} {x : El} (hi : i < l.length) (h0 : x.kind ≠ 0) (h1 : 0 ≤ x.par) (h2 : x.par < i) (h : ¬ ((l.getD x.par.toNat zeroE).kind = 4 ∨ ¬ (x.side ≠ 0 ↔ (l.getD x.par.toNat zeroE).kind = 3) ∨ takenE x (l.take i) = true)) : placeE x (l.take i) = 0 := by
  have e : (l.take i).getD x.par.toNat zeroE = l.getD x.par.toNat zeroE := by
    rw [List.getD_eq_getElem?_getD, List.getElem?_take_of_lt (by omega), ← List.getD_eq_getElem?_getD]
  unfold placeE
  rw [if_neg h0, if_neg (by rw [List.length_take]; omega), e, if_neg h]
set_option maxRecDepth 100000 in
set_option maxHeartbeats 6400000 in
theorem fits_any (l : List El) (A : Option Addr) (c i : Nat) (x : El) (w : World) (H : RRow ER w A l) (hx : l[i]? = some x) (hsz : x.name.size ≤ 4611686018427387904) (h128 : l.length ≤ 128) (hp : vlE [] (l.take i) = 0) :
    Calls Tryz.prog 28 #[.slice A l.length c, .int .i64 (i : Int)] w fun e w' => e = .returned (.int .i64 (stepE (l.take i) x)) ∧ Below w.heap.size w w' := by
  have hiL : i < l.length := (List.getElem?_eq_some_iff.1 hx).1
  obtain ⟨ad, rfl, C⟩ := H.at_ hx
  obtain ⟨c0, c1, c2, c3, c4, c5, c6, c7⟩ := ESpelt.of C
  have HH := Lib.hid H
  have HP := Lib.hid hp
  have HTL := Lib.hid (show (l.take i).length = i by rw [List.length_take]; omega)
  have HIL := Lib.hid hiL
  have HS := Lib.hid (rsound_any x (w.alloc (.cells #[.int .i64 x.kind, .string x.name, .int .i64 x.par, .int .i64 x.side, .int .i64 x.len, .int .i64 x.gra, .int .i64 x.cur, .int .i64 x.pow] 35)) hsz)
  have HE := Lib.hid (newE w x 35 w.heap.size rfl)
  have HB := Lib.hid (show Below w.heap.size w (w.alloc (.cells #[.int .i64 x.kind, .string x.name, .int .i64 x.par, .int .i64 x.side, .int .i64 x.len, .int .i64 x.gra, .int .i64 x.cur, .int .i64 x.pow] 35)) from (Below.refl _ _).alloc (Nat.le_refl _) _)
  obtain ⟨L, hL⟩ : ∃ n, n = l.length := ⟨_, rfl⟩
  have HL := Lib.hid hL
  rw [← hL] at hiL h128 ⊢
  have hiL' : (i : Int) < (L : Int) := by omega
  clear H C hx hp hL hsz
  go_enter Tryz.func28, Tryz.ntmps28
  go_wp2_with fail
  refine HS.out.mono ?_
  rintro e w1 ⟨rfl, B1⟩
  have HE1 := Lib.hid (EBlk.of (HE.out.below B1))
  have HB1 := Lib.hid (below1 B1)
  obtain ⟨b, hb⟩ : ∃ b, b = w.heap.size := ⟨_, rfl⟩
  have HBB := Lib.hid hb
  rw [← hb] at HE1 ⊢
  clear c0 c1 c2 c3 c4 c5 c6 c7 HS HE HB B1 hb
  cases hs : soundE x with
  | false =>
    have HF := Lib.hid (step_sound (seen := l.take i) hs)
    clear hs
    go_wp2_with fail
    go_ret
    exact ⟨by rw [HF.out]; rfl, HB1.out⟩
  | true =>
    have HSD := Lib.hid hs
    have d0 := HE1.out.c0
    clear hs
    by_cases hk : x.kind = 0 ↔ i = 0
    · have HK := Lib.hid (show x.kind = 0 ↔ (l.take i).length = 0 by rw [HTL.out]; exact hk)
      obtain ⟨q, hq1, hq2⟩ : ∃ q : Bool, (x.kind == 0) = q ∧ ((i : Int) == 0) = q := by
        by_cases g : i = 0
        · exact ⟨true, beq_iff_eq.2 (hk.2 g), beq_iff_eq.2 (by omega)⟩
        · exact ⟨false, beq_eq_false_iff_ne.2 (fun h => g (hk.1 h)), beq_eq_false_iff_ne.2 (by omega)⟩
      have hqq : (q != q) = false := by cases q <;> rfl
      have HQ := Lib.hid (show q = true ↔ i = 0 by
        rw [← hq2, beq_iff_eq]; omega)
      have HKI := Lib.hid hk
      clear hk
      go_wp2_with fail
      clear hqq hq1 d0
      go_loopw [6] (fun iv wr => (∃ n, wr = w1.drewN n) ∧ ∃ k : Nat, k ≤ i ∧ iv = .int .i64 (k : Int) ∧ Hid (x.name ∉ (l.take k).map El.name)) (fun iv _ => i - (intOf iv).toNat)
      case atStart => exact ⟨⟨0, rfl⟩, 0, by omega, rfl, Lib.hid (by simp)⟩
      case round =>
        obtain ⟨⟨n, hwn⟩, k, hk, rfl, HM⟩ := hrel
        have HW := Lib.hid hwn
        by_cases hlt : k < i
        · have hlt' : (k : Int) < (i : Int) := by omega
          have hkL : (k : Int) < (L : Int) := by omega
          obtain ⟨y, hy, _, htk⟩ := drop_ex (l := l) (k := k) (by rw [← HL.out]; omega)
          obtain ⟨ad', e', CY⟩ := (HH.out.below HB1.out).at_ hy
          injection e' with e'
          subst e'
          have y1 := ((ESpelt.of CY).drewF n).c1
          have d1 := (HE1.out.drewF n).c1
          rw [← hwn] at y1 d1
          by_cases hn : y.name = x.name
          · rw [hn] at y1
            have HF := Lib.hid (step_dup HSD.out HK.out (show x.name ∈ (l.take i).map El.name from List.mem_map.2 ⟨y, List.mem_of_getElem? (show (l.take i)[k]? = some y by rw [List.getElem?_take_of_lt hlt]; exact hy), hn⟩))
            have HBE := Lib.hid (show Below w.heap.size w wr by rw [hwn]; exact bdn HB1.out)
            clear CY hy htk hwn hn
            go_upto_region 7 with fail
            go_quiet (fail)
            clear y1 d1
            go_wp2_with fail
            go_ret
            exact ⟨by rw [HF.out]; rfl, bdn HBE.out⟩
          · have HM2 := Lib.hid (show x.name ∉ (l.take (k + 1)).map El.name by
              rw [htk, List.map_append, List.mem_append]
              rintro (g | g)
              · exact HM.out g
              · simp at g; exact hn g.symm)
            have n1 := str_ne hn
            clear CY hy htk hwn hn
            go_upto_region 7 with fail
            go_quiet (fail)
            clear y1 d1 n1
            go_wp2_with fail
            go_roundw
            case rel => exact ⟨by obtain rfl := HW.out; exact ⟨n + nq, by rw [World.drewN_drewN]⟩, k + 1, by omega, by go_num, HM2⟩
            case measure => simp [intOf]; omega
        · obtain rfl : k = i := by omega
          have HB2 := Lib.hid (show Below w.heap.size w wr by rw [hwn]; exact bdn HB1.out)
          have HE2 := Lib.hid (show EBlk wr b x by rw [hwn]; exact HE1.out.drewF n)
          have HST := Lib.hid (step_place HSD.out HK.out HM.out)
          clear hwn HE1 HB1 HW HM
          cases q with
          | true =>
            have HF := Lib.hid (show stepE (l.take k) x = 0 by
              rw [HST.out]; unfold placeE; rw [if_pos (HKI.out.2 (HQ.out.1 rfl))])
            go_wp2_with fail
            go_ret
            exact ⟨by rw [HF.out]; rfl, HB2.out⟩
          | false =>
            have hk0 : k ≠ 0 := fun g => by have := HQ.out.2 g; cases this
            have hx0 : x.kind ≠ 0 := fun g => hk0 (HKI.out.1 g)
            have HX0 := Lib.hid hx0
            have d2 := HE2.out.c2
            have d3 := HE2.out.c3
            by_cases hord : x.par < 0 ∨ (k : Int) ≤ x.par
            · have HF := Lib.hid (HST.out.trans (place_ord HIL.out hx0 hord))
              by_cases ho : x.par < 0
              · clear hord hx0 hk0
                go_wp2_with fail
                go_ret
                exact ⟨by rw [HF.out]; rfl, HB2.out⟩
              · have ho2 : (k : Int) ≤ x.par := hord.resolve_left ho
                clear hord hx0 hk0
                go_wp2_with fail
                go_ret
                exact ⟨by rw [HF.out]; rfl, HB2.out⟩
            · obtain ⟨p, hpp⟩ := Int.eq_ofNat_of_zero_le (show 0 ≤ x.par by omega)
              have hpk : p < k := by omega
              have hpL : (p : Int) < (L : Int) := by omega
              obtain ⟨y, hy, _, _⟩ := drop_ex (l := l) (k := p) (by rw [← HL.out]; omega)
              obtain ⟨ad', e', CY⟩ := (HH.out.below HB2.out).at_ hy
              injection e' with e'
              subst e'
              have y0 := (ESpelt.of CY).c0
              have hgd : l.getD x.par.toNat zeroE = y := by rw [hpp, Int.toNat_natCast, List.getD_eq_getElem?_getD, hy]; rfl
              have HCON := Lib.hid (fun h => HST.out.trans (place_con HIL.out HX0.out (show 0 ≤ x.par by omega) (show x.par < k by omega) h))
              have HOK := Lib.hid (fun h => HST.out.trans (place_ok HIL.out HX0.out (show 0 ≤ x.par by omega) (show x.par < k by omega) h))
              rw [hgd] at HCON HOK
              have hpar0 : ¬ (p : Int) < 0 := by omega
              have hpar1 : ¬ (k : Int) ≤ (p : Int) := by omega
              rw [hpp] at d2
              have HPP := Lib.hid hpp
              have hk1 : 1 ≤ k := by omega
              clear hgd hord CY hy hpp hx0 hk0
              generalize y.kind = yk at *
              by_cases hy4 : yk = 4
              · have HF := Lib.hid (HCON.out (Or.inl hy4))
                have y4 : (yk == 4) = true := beq_iff_eq.2 hy4
                clear hy4
                go_wp2_with fail
                go_ret
                exact ⟨by rw [HF.out]; rfl, HB2.out⟩
              · have y4 : (yk == 4) = false := beq_eq_false_iff_ne.2 hy4
                by_cases hy3 : x.side ≠ 0 ↔ yk = 3
                · have hst : ((yk == 3) == (x.side == 0)) = false := by
                    by_cases g : yk = 3
                    · rw [beq_iff_eq.2 g, beq_eq_false_iff_ne.2 (hy3.2 g)]; rfl
                    · rw [beq_eq_false_iff_ne.2 g, beq_iff_eq.2 (Decidable.of_not_not fun q => g (hy3.1 q))]; rfl
                  have HY := Lib.hid (And.intro hy4 hy3)
                  clear hy4 hy3
                  go_wp2_with fail
                  clear d2 d3 y0 y4 hst hpar0 hpar1
                  generalize wr = wo at *
                  go_loopw [8] (fun iv wj => (∃ n, wj = wo.drewN n) ∧ ∃ j : Nat, 1 ≤ j ∧ j ≤ k ∧ iv = .int .i64 (j : Int) ∧ Hid (∀ z ∈ l.take j, ¬ (z.par = (p : Int) ∧ z.side = x.side))) (fun iv _ => k - (intOf iv).toNat)
                  case atStart =>
                    refine ⟨⟨0, rfl⟩, 1, Nat.le_refl _, hk1, rfl, Lib.hid (fun z hz => ?_)⟩
                    obtain ⟨z0, hz0, _, htk⟩ := drop_ex (l := l) (k := 0) (by have := HIL.out; omega)
                    rw [htk] at hz
                    have hz' : z = z0 := by simpa using hz
                    subst hz'
                    have := par_lt HP.out (k := 0) (x := z) (by rw [List.getElem?_take_of_lt (by omega)]; exact hz0)
                    rcases this with ⟨_, e, _⟩ | ⟨e, _⟩
                    · rintro ⟨g, _⟩; omega
                    · omega
                  case round =>
                    obtain ⟨⟨n, hwn⟩, j, hj1, hj, rfl, HM⟩ := hrel
                    have HW := Lib.hid hwn
                    by_cases hlt : j < k
                    · have hlt' : (j : Int) < (k : Int) := by omega
                      have hjL : (j : Int) < (L : Int) := by omega
                      obtain ⟨z, hz, _, htk⟩ := drop_ex (l := l) (k := j) (by have := HIL.out; omega)
                      obtain ⟨ad', e', CY⟩ := (HH.out.below HB2.out).at_ hz
                      injection e' with e'
                      subst e'
                      have z2 := ((ESpelt.of CY).drewF n).c2
                      have z3 := ((ESpelt.of CY).drewF n).c3
                      have d2 := (HE2.out.drewF n).c2
                      have d3 := (HE2.out.drewF n).c3
                      rw [HPP.out] at d2
                      rw [← hwn] at z2 z3 d2 d3
                      have HM2 := Lib.hid (fun (h : ¬ (z.par = (p : Int) ∧ z.side = x.side)) => (show ∀ u ∈ l.take (j + 1), ¬ (u.par = (p : Int) ∧ u.side = x.side) from fun u hu => by
                        rw [htk, List.mem_append] at hu
                        rcases hu with hu | hu
                        · exact HM.out u hu
                        · simp at hu; subst hu; exact h))
                      have HTK := Lib.hid (fun (h1 : z.par = (p : Int)) (h2 : z.side = x.side) => (show takenE x (l.take k) = true by
                        unfold takenE
                        rw [List.any_eq_true]
                        refine ⟨z, List.mem_of_getElem? (show (l.take k)[j]? = some z by rw [List.getElem?_take_of_lt hlt]; exact hz), ?_⟩
                        rw [Bool.and_eq_true, decide_eq_true_eq, decide_eq_true_eq]
                        exact ⟨h1.trans HPP.out.symm, h2⟩))
                      generalize z.par = zp at *
                      generalize z.side = zs at *
                      clear CY hz htk hwn HM
                      by_cases h1 : zp = (p : Int)
                      · subst h1
                        by_cases h2 : zs = x.side
                        · have HF := Lib.hid (HCON.out (Or.inr (Or.inr (HTK.out rfl h2))))
                          have HBE := Lib.hid (show Below w.heap.size w wr by rw [HW.out]; exact bdn HB2.out)
                          have h2b : (zs == x.side) = true := beq_iff_eq.2 h2
                          clear h2
                          go_upto_region 19 with fail
                          go_quiet (fail)
                          clear z2 z3 d2 d3
                          go_wp2_with fail
                          go_ret
                          exact ⟨by rw [HF.out]; rfl, bdn HBE.out⟩
                        · have HM3 := Lib.hid (HM2.out (fun g => h2 g.2))
                          have h2b : (zs == x.side) = false := beq_eq_false_iff_ne.2 h2
                          clear h2
                          go_upto_region 19 with fail
                          go_quiet (fail)
                          clear z2 z3 d2 d3
                          go_wp2_with fail
                          go_roundw
                          case rel => exact ⟨by obtain rfl := HW.out; exact ⟨n + nq, by rw [World.drewN_drewN]⟩, j + 1, by omega, by omega, by go_num, HM3⟩
                          case measure => simp [intOf]; omega
                      · have HM3 := Lib.hid (HM2.out (fun g => h1 g.1))
                        have h1b : (zp == (p : Int)) = false := beq_eq_false_iff_ne.2 h1
                        clear h1
                        go_upto_region 19 with fail
                        go_quiet (fail)
                        clear z2 z3 d2 d3
                        go_wp2_with fail
                        go_roundw
                        case rel => exact ⟨by obtain rfl := HW.out; exact ⟨n + nq, by rw [World.drewN_drewN]⟩, j + 1, by omega, by omega, by go_num, HM3⟩
                        case measure => simp [intOf]; omega
                    · obtain rfl : j = k := by omega
                      have HF := Lib.hid (HOK.out (by
                        rintro (g | g | g)
                        · exact HY.out.1 g
                        · exact g HY.out.2
                        · unfold takenE at g
                          obtain ⟨z, hz, hb⟩ := List.any_eq_true.1 g
                          rw [Bool.and_eq_true, decide_eq_true_eq, decide_eq_true_eq] at hb
                          exact HM.out z hz ⟨hb.1.trans HPP.out, hb.2⟩))
                      have HBE := Lib.hid (show Below w.heap.size w wr by rw [hwn]; exact bdn HB2.out)
                      clear hwn
                      go_wp2_with fail
                      go_ret
                      exact ⟨by rw [HF.out]; rfl, HBE.out⟩
                · have hst : ((yk == 3) == (x.side == 0)) = true := by
                    by_cases g : yk = 3
                    · have : x.side = 0 := Decidable.of_not_not fun q => hy3 ⟨fun _ => g, fun _ => q⟩
                      rw [beq_iff_eq.2 g, beq_iff_eq.2 this]; rfl
                    · have : x.side ≠ 0 := fun q => hy3 ⟨fun z => absurd q z, fun z => absurd z g⟩
                      rw [beq_eq_false_iff_ne.2 g, beq_eq_false_iff_ne.2 this]; rfl
                  have HF := Lib.hid (HCON.out (Or.inr (Or.inl hy3)))
                  clear hy3 hy4
                  go_wp2_with fail
                  go_ret
                  exact ⟨by rw [HF.out]; rfl, HB2.out⟩
    · have HF := Lib.hid (step_crest (x := x) (seen := l.take i) (by rw [HTL.out]; exact hk))
      by_cases g : i = 0
      · have g2 : ((i : Int) == 0) = true := beq_iff_eq.2 (by omega)
        have g1 : (x.kind == 0) = false := beq_eq_false_iff_ne.2 (fun h => hk ⟨fun _ => g, fun _ => h⟩)
        clear hk g
        go_wp2_with fail
        go_ret
        exact ⟨by rw [HF.out]; rfl, HB1.out⟩
      · have g2 : ((i : Int) == 0) = false := beq_eq_false_iff_ne.2 (by omega)
        have g1 : (x.kind == 0) = true := beq_iff_eq.2 (Decidable.of_not_not fun h => hk ⟨fun z => absurd z h, fun z => absurd z g⟩)
        clear hk g
        go_wp2_with fail
        go_ret
        exact ⟨by rw [HF.out]; rfl, HB1.out⟩
end Go.Proofs.YtgohocbkkhnmnaaGreatDoor
