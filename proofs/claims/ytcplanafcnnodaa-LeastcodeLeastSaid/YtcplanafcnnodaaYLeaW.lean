/-
  Stage 13: the walk of LeastcodeLeast.
-/
import Derived.Test.YtcplanafcnnodaaYLeaP
import Derived.Test.YtcplanafcnnodaaYSane
import Derived.Test.YtcplanafcnnodaaKRef2
set_option linter.unusedSimpArgs false
set_option linter.unusedVariables false
namespace Go.Proofs.Ytcplanafcnnodaa
open Go.RowKit Go.Lib

set_option maxRecDepth 100000 in
set_option maxHeartbeats 3200000 in
theorem lea_walk (A : Option Addr) (c : Nat) (zs : List Int) (w : World) (hr : Row .i64 w w.heap.size A zs) (hm : zs.length ≤ maxLen) (hw : ∀ n ∈ zs, (Lit.int .i64 n).wf = true) :
    Calls Try.prog 7 #[.slice A zs.length c] w fun e w' => e = .returned (.bool true) ∧ Below w.heap.size w w' := by
  have K := Lib.hid (mk_row (c := c) (T := 65) hr hm hw)
  have B := Lib.hid ((Below.refl w.heap.size w).alloc (Nat.le_refl _) (.cells #[.slice A zs.length c, .int .i64 0] 65))
  clear hr hw
  go_enter Try.func7, Try.ntmps7
  go_wp2_with fail
  refine (new_any A zs.length c w).mono ?_
  rintro e w1 ⟨rfl, hw1⟩
  rw [← hw1] at K B
  clear hw1 hm
  go_wp2_with fail
  refine mjob_start w w1 14 (by omega) K.out B.out ?_
  intro jA jc l wt w2 hl hlt hS
  obtain ⟨b, hb⟩ : ∃ b, b = w2.heap.size := ⟨_, rfl⟩
  have S := Lib.hid (hS b hb)
  clear K B hS hlt
  go_upto_region 2 with fail
  rw [← hb]
  generalize w2.alloc (.cells #[.slice jA l.length jc, .int .i64 wt] 24) = w3 at *
  clear hb
  obtain ⟨L, hL⟩ : ∃ n, n = l.length := ⟨_, rfl⟩
  have HL := Lib.hid hL
  have HC := Lib.hid (fun (W : World) (k : IRow W jA l) => least_any l jA jc L wt hL W k)
  have J := S.out.box
  rw [← hL] at J hl ⊢
  obtain ⟨j0, j1, jl⟩ := J
  clear hL
  go_wp2_with fail
  refine (HC.out w3 S.out.irow).mono ?_
  rintro e w4 ⟨st, pA, pn, pc, er, v, rfl, O, B4, hr⟩
  have HR := Lib.hid (hr.valid S.out.val)
  obtain ⟨g1, hg1⟩ : ∃ g, g = w4.heap.size := ⟨_, rfl⟩
  have P1 := Lib.hid (PSt.new (st := st) (m := w.heap.size) O (Nat.lt_trans S.out.lt S.out.box.lt) g1 hg1 (by rw [hg1]; exact Nat.lt_of_lt_of_le (Nat.lt_trans S.out.lt S.out.box.lt) B4.size))
  have BX := (Below.refl w4.heap.size w4).alloc (Nat.le_refl _) (.cells #[.int .i64 st, .slice pA pn pc] 29)
  have S4 := Lib.hid ((S.out.below B4).below BX)
  clear j0 j1 jl S O B4 hr BX
  go_upto_region 3 with fail
  rw [← hg1]
  generalize w4.alloc (.cells #[.int .i64 st, .slice pA pn pc] 29) = w5 at *
  clear hg1
  have J := S4.out.box
  rw [← HL.out] at J
  obtain ⟨j0, j1, jl⟩ := J
  rcases HR.out with ⟨rfl, rfl, rfl, hno⟩ | ⟨rfl, bs, hsol, hst⟩
  · clear HR hno
    go_wp2_with fail
    refine (sane13_any _).mono ?_
    rintro e wz ⟨rfl, BZ⟩
    have HZ := Lib.hid (S4.out.bel.trans (BZ.mono S4.out.bel.size))
    clear BZ
    go_wp2_with fail
    go_ret
    exact ⟨rfl, HZ.out⟩
  · have hf := S4.out.form
    have HVB := Lib.hid (fun y => (hsol.bound hf y).1)
    have hpn : pn = L := by rw [P1.out.len, hsol.vlen, HL.out]
    have hvl : v.length = L := by rw [hsol.vlen, HL.out]
    have HVL := Lib.hid hvl
    have HRK := Lib.hid (fun y hy => sol_rank hf hsol y hy)
    have HKI := Lib.hid (fun (x y : Nat) (hx : x < L) (hy : y < L) (W : World) (k : IRow W jA l) => kind_any l jA jc wt x y (by rw [← HL.out]; exact hx) (by rw [← HL.out]; exact hy) W k)
    have HSI := Lib.hid (fun (x y : Nat) (hx : x < L) (hy : y < L) (W : World) (k : IRow W jA l) => strict_any l jA jc wt x y (by rw [← HL.out]; exact hx) (by rw [← HL.out]; exact hy) W k)
    rw [← HL.out] at HKI HSI
    subst hpn
    have hkk : ((pn : Int) != (pn : Int)) = false := by simp
    clear HR hsol hst hvl hf
    obtain ⟨p0, p1, -, pl⟩ := P1.out.box
    go_wp2_with fail
    clear p0 p1 pl j0 j1 jl hkk
    go_loopw [38] (fun iv wr => ∃ y : Nat, y ≤ pn ∧ iv = .int .i64 (y : Int) ∧ Hid (Below w5.heap.size w5 wr)) (fun iv _ => pn - (intOf iv).toNat)
    case atStart => exact ⟨0, by omega, rfl, Lib.hid (Below.refl _ _)⟩
    case round =>
      obtain ⟨y, hy, rfl, BR⟩ := hrel
      have S7 := Lib.hid (S4.out.below BR.out)
      have P7 := Lib.hid (P1.out.below BR.out)
      by_cases hlt : y < pn
      · obtain ⟨pad, rfl, _, cp⟩ := P7.out.row.1 y (by rw [HVL.out]; exact hlt)
        have hyl : y < l.length := by rw [← HL.out]; exact hlt
        obtain ⟨aA, rfl, CE⟩ := S7.out.irow.at_ y hyl
        obtain ⟨-, -, r2, -⟩ := CE.spelt
        replace r2 : wr.cell? ⟨(aA.add (y * 4)).block, (aA.add (y * 4)).off + 2, none⟩ = some (.int .i64 (rnd l y)) := r2
        have J := S7.out.box
        rw [← HL.out] at J
        obtain ⟨j0, j1, jl⟩ := J
        obtain ⟨p0, p1, -, pl⟩ := P7.out.box
        have hyi : (y : Int) < (pn : Int) := by omega
        have HRKI := Lib.hid (fun q : Nat => rrank_any (v.getD y 0) (rnd l y) wt (wr.drewN q))
        have HNTH := Lib.hid (fun (I : Nat) (hI : I < 4096) (W : World) => rnth_any (I : Int) (rnd l y) wt W (by omega))
        have hcs := HRK.out y hyl
        have HYL := Lib.hid hyl
        have HVY := Lib.hid (show ∀ z, z = v.getD y 0 → 0 ≤ z ∧ z ≤ 4095 from fun z e => by rw [e]; exact HVB.out y)
        clear CE hyl
        obtain ⟨vy, hvy⟩ : ∃ z, z = v.getD y 0 := ⟨_, rfl⟩
        obtain ⟨rr, hrr⟩ : ∃ z, z = rnd l y := ⟨_, rfl⟩
        rw [← hvy] at cp HRKI hcs
        rw [← hrr] at r2 HRKI HNTH hcs
        clear hvy hrr HVY
        rcases hcs with hz | ⟨I, B, hI, hB, hz, hth, hh⟩
        · rw [hz] at HRKI
          clear hz
          go_wp2_with fail
          go_quiet ((go_at_call 25; exact Calls.quiet_of (HRKI.out _)))
          go_wp2_with fail
          go_roundw
          case rel => exact ⟨y + 1, by omega, by go_num, Lib.hid (bdn BR.out)⟩
          case measure => simp [intOf]; omega
        · rw [hz] at HRKI
          clear hz
          have hI1 : ((I : Int) + 1 == 0) = false := by simp; omega
          have hI2 : IntKind.i64.wrap ((I : Int) + 1 - 1) = (I : Int) := by rw [IntWalk.i64_in _ (by omega)]; omega
          have hI3 : IntKind.i64.wrap (I : Int) = (I : Int) := IntWalk.i64_in _ (by omega)
          have HNT2 := Lib.hid (fun q : World => (by
            have := HNTH.out I hI q
            rw [hth] at this
            exact this : Calls Try.prog 26 #[.int .i64 (I : Int), .int .i64 rr, .int .i64 wt] q fun e w' => e = .returned (R2 ((B : Int), 0)) ∧ ∃ n, w' = q.drewN n))
          have HH := Lib.hid hh
          clear hh hth HNTH
          go_wp2_with fail
          go_quiet ((go_at_call 25; exact Calls.quiet_of (HRKI.out _)))
          go_wp2_with fail
          go_quiet ((go_at_call 26; exact (HNT2.out _).mono fun e w1 h => (by obtain ⟨rfl, n, rfl⟩ := h; exact ⟨rfl, _, by rw [World.drewN_drewN, Nat.add_assoc]⟩)))
          go_wp2_with fail
          obtain ⟨xh, HX⟩ : ∃ xh, Hid (xh < pn ∧ rel l xh y ≠ 0 ∧ (B : Int) < v.getD xh 0 + str1 l xh y) := by
            obtain ⟨xh, h1, h2, h3⟩ := HH.out
            exact ⟨xh, Lib.hid ⟨by rw [HL.out]; exact h1, h2, h3⟩⟩
          go_loopw [11, 79] (fun fv iv wi => ∃ (f : Bool) (x : Nat), x ≤ pn ∧ fv = .bool f ∧ iv = .int .i64 (x : Int) ∧ Hid (f = true → x ≤ xh) ∧ Hid (Below w5.heap.size w5 wi)) (fun _ iv _ => pn - (intOf iv).toNat)
          case atStart => exact ⟨true, 0, by omega, rfl, rfl, Lib.hid (fun _ => Nat.zero_le _), Lib.hid (by first | exact bdn (bdn BR.out) | exact bdn BR.out)⟩
          case round =>
            obtain ⟨f, x, hx, rfl, rfl, HF, BI⟩ := hrel
            clear BR S7 P7 HRKI HNT2 HH j0 j1 jl p0 p1 pl r2 cp hI1 hI2 hI3 hI
            by_cases hlx : x < pn
            · have S8 := Lib.hid (S4.out.below BI.out)
              have P8 := Lib.hid (P1.out.below BI.out)
              obtain ⟨pad', e', _, cx⟩ := P8.out.row.1 x (by rw [HVL.out]; exact hlx)
              obtain rfl : pad = pad' := by injection e'
              have J := S8.out.box
              rw [← HL.out] at J
              obtain ⟨j0, j1, jl⟩ := J
              obtain ⟨p0, p1, -, pl⟩ := P8.out.box
              have hsb : 0 ≤ str1 l x y ∧ str1 l x y ≤ 1 := by unfold str1; split <;> omega
              have hrc := rel_cases l x y
              have hvx := HVB.out x
              have HK1 := Lib.hid (fun W k => HKI.out x y hlx hlt W k)
              have HS1 := Lib.hid (fun W k => HSI.out x y hlx hlt W k)
              have HXX := Lib.hid (show x = xh → rel l x y ≠ 0 ∧ (B : Int) < v.getD x 0 + str1 l x y from fun e => by subst e; exact HX.out.2)
              obtain ⟨r, hr⟩ : ∃ r, r = rel l x y := ⟨_, rfl⟩
              obtain ⟨s1, hs1⟩ : ∃ r, r = str1 l x y := ⟨_, rfl⟩
              obtain ⟨vx, hux⟩ : ∃ r, r = v.getD x 0 := ⟨_, rfl⟩
              rw [← hr] at HK1 HXX hrc
              rw [← hs1] at HS1 HXX hsb
              rw [← hux] at cx HXX hvx
              have ltx := lt_of_cell cx
              have HPS := Lib.hid (fun (X : World) (hX : Below wr.heap.size wr X) => (show X.cell? ⟨b, 0, none⟩ = some (.slice (some aA) pn jc) ∧ X.cell? ⟨b, 1, none⟩ = some (.int .i64 wt) ∧ X.cell? ⟨g1, 1, none⟩ = some (.slice (some pad) pn pc) ∧ X.cell? (pad.add x) = some (.int .i64 vx) from
                ⟨(hX.cell (p := ⟨b, 0, none⟩) jl).trans j0, (hX.cell (p := ⟨b, 1, none⟩) jl).trans j1, (hX.cell (p := ⟨g1, 1, none⟩) pl).trans p1, (hX.cell ltx).trans cx⟩))
              have HIW := Lib.hid (fun (X : World) (hX : Below wr.heap.size wr X) => (S8.out.below hX).irow)
              have hxi : (x : Int) < (pn : Int) := by omega
              clear e' hr hs1 hux ltx
              go_upto_region 19 with fail
              clear j0 j1 jl p0 p1 pl cx
              obtain ⟨q0, e0⟩ : ∃ x, x = wr.drew := ⟨_, rfl⟩
              have K0 := Lib.hid (show Below wr.heap.size wr q0 from by rw [e0]; exact (Below.refl _ _).drew)
              have F0 := HPS.out q0 K0.out
              have HE0 := Lib.hid e0
              clear e0
              refine AnyT.begin_at tlN (fun X => X.cell? ⟨b, 0, none⟩ = some (.slice (some aA) pn jc) ∧ X.cell? ⟨b, 1, none⟩ = some (.int .i64 wt) ∧ X.cell? ⟨g1, 1, none⟩ = some (.slice (some pad) pn pc) ∧ X.cell? (pad.add x) = some (.int .i64 vx)) (by kernel_rfl) HE0.out F0 ?_
              clear F0
              intro F0
              cases f
              · skip
-- TAKES T0
                refine AnyT.takeD (i := 0) (d := some 82) (v := .bool false) rfl rfl (by kernel_rfl) (by kernel_rfl) (by kernel_rfl) (by kernel_rfl) (fun _ _ _ h => h) (Or.inl ⟨by rfl, fun wz _ => by go_simp⟩) F0 ?_
                simp only [Act.put, List.setIfInBounds_toArray, List.set_cons_zero, List.set_cons_succ]
                refine AnyT.takeD (i := 1) (d := some 83) (v := .bool false) rfl rfl (by kernel_rfl) (by kernel_rfl) (by kernel_rfl) (by kernel_rfl) (fun _ _ _ h => h) (Or.inl ⟨by rfl, fun wz _ => by go_simp⟩) F0 ?_
                simp only [Act.put, List.setIfInBounds_toArray, List.set_cons_zero, List.set_cons_succ]
                refine AnyT.takeD (i := 2) (d := some 84) (v := undef) rfl rfl (by kernel_rfl) (by kernel_rfl) (by kernel_rfl) (by kernel_rfl) (fun _ _ _ h => h) (Or.inr ⟨by rfl, rfl⟩) F0 ?_
                simp only [Act.put, List.setIfInBounds_toArray, List.set_cons_zero, List.set_cons_succ]
                refine AnyT.takeD (i := 3) (d := some 85) (v := undef) rfl rfl (by kernel_rfl) (by kernel_rfl) (by kernel_rfl) (by kernel_rfl) (fun _ _ _ h => h) (Or.inr ⟨by rfl, rfl⟩) F0 ?_
                simp only [Act.put, List.setIfInBounds_toArray, List.set_cons_zero, List.set_cons_succ]
                refine AnyT.takeD (i := 4) (d := some 86) (v := undef) rfl rfl (by kernel_rfl) (by kernel_rfl) (by kernel_rfl) (by kernel_rfl) (fun _ _ _ h => h) (Or.inr ⟨by rfl, rfl⟩) F0 ?_
                simp only [Act.put, List.setIfInBounds_toArray, List.set_cons_zero, List.set_cons_succ]
                refine AnyT.takeD (i := 5) (d := some 87) (v := undef) rfl rfl (by kernel_rfl) (by kernel_rfl) (by kernel_rfl) (by kernel_rfl) (fun _ _ _ h => h) (Or.inr ⟨by rfl, rfl⟩) F0 ?_
                simp only [Act.put, List.setIfInBounds_toArray, List.set_cons_zero, List.set_cons_succ]
                refine AnyT.takeD (i := 6) (d := some 88) (v := undef) rfl rfl (by kernel_rfl) (by kernel_rfl) (by kernel_rfl) (by kernel_rfl) (fun _ _ _ h => h) (Or.inr ⟨by rfl, rfl⟩) F0 ?_
                simp only [Act.put, List.setIfInBounds_toArray, List.set_cons_zero, List.set_cons_succ]
                refine AnyT.takeD (i := 7) (d := some 89) (v := undef) rfl rfl (by kernel_rfl) (by kernel_rfl) (by kernel_rfl) (by kernel_rfl) (fun _ _ _ h => h) (Or.inr ⟨by rfl, rfl⟩) F0 ?_
                simp only [Act.put, List.setIfInBounds_toArray, List.set_cons_zero, List.set_cons_succ]
                refine AnyT.takeD (i := 8) (d := some 90) (v := undef) rfl rfl (by kernel_rfl) (by kernel_rfl) (by kernel_rfl) (by kernel_rfl) (fun _ _ _ h => h) (Or.inr ⟨by rfl, rfl⟩) F0 ?_
                simp only [Act.put, List.setIfInBounds_toArray, List.set_cons_zero, List.set_cons_succ]
                refine AnyT.takeD (i := 9) (d := some 91) (v := undef) rfl rfl (by kernel_rfl) (by kernel_rfl) (by kernel_rfl) (by kernel_rfl) (fun _ _ _ h => h) (Or.inr ⟨by rfl, rfl⟩) F0 ?_
                simp only [Act.put, List.setIfInBounds_toArray, List.set_cons_zero, List.set_cons_succ]
                refine AnyT.takeD (i := 10) (d := some 92) (v := undef) rfl rfl (by kernel_rfl) (by kernel_rfl) (by kernel_rfl) (by kernel_rfl) (fun _ _ _ h => h) (Or.inr ⟨by rfl, rfl⟩) F0 ?_
                simp only [Act.put, List.setIfInBounds_toArray, List.set_cons_zero, List.set_cons_succ]
                refine AnyT.takeD (i := 11) (d := some 93) (v := undef) rfl rfl (by kernel_rfl) (by kernel_rfl) (by kernel_rfl) (by kernel_rfl) (fun _ _ _ h => h) (Or.inr ⟨by rfl, rfl⟩) F0 ?_
                simp only [Act.put, List.setIfInBounds_toArray, List.set_cons_zero, List.set_cons_succ]
                refine AnyT.takeD (i := 12) (d := some 94) (v := undef) rfl rfl (by kernel_rfl) (by kernel_rfl) (by kernel_rfl) (by kernel_rfl) (fun _ _ _ h => h) (Or.inr ⟨by rfl, rfl⟩) F0 ?_
                simp only [Act.put, List.setIfInBounds_toArray, List.set_cons_zero, List.set_cons_succ]
                refine AnyT.takeD (i := 13) (d := some 95) (v := undef) rfl rfl (by kernel_rfl) (by kernel_rfl) (by kernel_rfl) (by kernel_rfl) (fun _ _ _ h => h) (Or.inr ⟨by rfl, rfl⟩) F0 ?_
                simp only [Act.put, List.setIfInBounds_toArray, List.set_cons_zero, List.set_cons_succ]
                refine AnyT.takeD (i := 14) (d := some 96) (v := undef) rfl rfl (by kernel_rfl) (by kernel_rfl) (by kernel_rfl) (by kernel_rfl) (fun _ _ _ h => h) (Or.inr ⟨by rfl, rfl⟩) F0 ?_
                simp only [Act.put, List.setIfInBounds_toArray, List.set_cons_zero, List.set_cons_succ]
                refine AnyT.takeD (i := 15) (d := some 97) (v := undef) rfl rfl (by kernel_rfl) (by kernel_rfl) (by kernel_rfl) (by kernel_rfl) (fun _ _ _ h => h) (Or.inr ⟨by rfl, rfl⟩) F0 ?_
                simp only [Act.put, List.setIfInBounds_toArray, List.set_cons_zero, List.set_cons_succ]
                refine AnyT.takeD (i := 16) (d := some 98) (v := undef) rfl rfl (by kernel_rfl) (by kernel_rfl) (by kernel_rfl) (by kernel_rfl) (fun _ _ _ h => h) (Or.inr ⟨by rfl, rfl⟩) F0 ?_
                simp only [Act.put, List.setIfInBounds_toArray, List.set_cons_zero, List.set_cons_succ]
                refine AnyT.takeD (i := 17) (d := some 99) (v := undef) rfl rfl (by kernel_rfl) (by kernel_rfl) (by kernel_rfl) (by kernel_rfl) (fun _ _ _ h => h) (Or.inr ⟨by rfl, rfl⟩) F0 ?_
                simp only [Act.put, List.setIfInBounds_toArray, List.set_cons_zero, List.set_cons_succ]
                refine AnyT.takeD (i := 18) (d := some 100) (v := undef) rfl rfl (by kernel_rfl) (by kernel_rfl) (by kernel_rfl) (by kernel_rfl) (fun _ _ _ h => h) (Or.inr ⟨by rfl, rfl⟩) F0 ?_
                simp only [Act.put, List.setIfInBounds_toArray, List.set_cons_zero, List.set_cons_succ]
                refine AnyT.takeD (i := 19) (d := some 101) (v := undef) rfl rfl (by kernel_rfl) (by kernel_rfl) (by kernel_rfl) (by kernel_rfl) (fun _ _ _ h => h) (Or.inr ⟨by rfl, rfl⟩) F0 ?_
                simp only [Act.put, List.setIfInBounds_toArray, List.set_cons_zero, List.set_cons_succ]
                refine AnyT.takeD (i := 20) (d := some 102) (v := undef) rfl rfl (by kernel_rfl) (by kernel_rfl) (by kernel_rfl) (by kernel_rfl) (fun _ _ _ h => h) (Or.inr ⟨by rfl, rfl⟩) F0 ?_
                simp only [Act.put, List.setIfInBounds_toArray, List.set_cons_zero, List.set_cons_succ]
                refine AnyT.takeD (i := 21) (d := some 103) (v := .bool false) rfl rfl (by kernel_rfl) (by kernel_rfl) (by kernel_rfl) (by kernel_rfl) (fun _ _ _ h => h) (Or.inl ⟨by rfl, fun wz _ => by go_simp⟩) F0 ?_
                simp only [Act.put, List.setIfInBounds_toArray, List.set_cons_zero, List.set_cons_succ]
                refine AnyT.takeD (i := 22) (d := some 11) (v := .bool false) rfl rfl (by kernel_rfl) (by kernel_rfl) (by kernel_rfl) (by kernel_rfl) (fun _ _ _ h => h) (Or.inl ⟨by rfl, fun wz _ => by go_simp⟩) F0 ?_
                simp only [Act.put, List.setIfInBounds_toArray, List.set_cons_zero, List.set_cons_succ]
                -- TAKEN T0
                refine AnyT.done_ (by kernel_rfl) ?_ _
                have BR1 := Lib.hid (BI.out.trans (K0.out.mono BI.out.size))
                clear F0 HPS HE0 K0 HS1 HK1 HIW
                go_wp2_with fail
                go_roundw
                case rel => exact ⟨false, x + 1, by omega, rfl, by go_num, Lib.hid (fun e => by cases e), BR1⟩
                case measure => simp [intOf]; omega
              · skip
-- TAKES T1
                refine AnyT.takeD (i := 0) (d := some 82) (v := .bool true) rfl rfl (by kernel_rfl) (by kernel_rfl) (by kernel_rfl) (by kernel_rfl) (fun _ _ _ h => h) (Or.inl ⟨by rfl, fun wz _ => by go_simp⟩) F0 ?_
                simp only [Act.put, List.setIfInBounds_toArray, List.set_cons_zero, List.set_cons_succ]
                refine AnyT.takeD (i := 1) (d := some 83) (v := .bool true) rfl rfl (by kernel_rfl) (by kernel_rfl) (by kernel_rfl) (by kernel_rfl) (fun _ _ _ h => h) (Or.inl ⟨by rfl, fun wz _ => by go_simp⟩) F0 ?_
                simp only [Act.put, List.setIfInBounds_toArray, List.set_cons_zero, List.set_cons_succ]
                refine AnyT.takeD (i := 2) (d := some 84) (v := jv (some aA) pn jc wt) rfl rfl (by kernel_rfl) (by kernel_rfl) (by kernel_rfl) (by kernel_rfl) (fun _ _ _ h => h) (Or.inl ⟨by rfl, fun wz hz => by obtain ⟨z0, z1, z2, z3⟩ := hz; go_simp⟩) F0 ?_
                simp only [Act.put, List.setIfInBounds_toArray, List.set_cons_zero, List.set_cons_succ]
                refine AnyT.takeD (i := 3) (d := some 85) (v := .int .i64 (x : Int)) rfl rfl (by kernel_rfl) (by kernel_rfl) (by kernel_rfl) (by kernel_rfl) (fun _ _ _ h => h) (Or.inl ⟨by rfl, fun wz _ => by go_simp⟩) F0 ?_
                simp only [Act.put, List.setIfInBounds_toArray, List.set_cons_zero, List.set_cons_succ]
                refine AnyT.takeD (i := 4) (d := some 86) (v := .int .i64 (y : Int)) rfl rfl (by kernel_rfl) (by kernel_rfl) (by kernel_rfl) (by kernel_rfl) (fun _ _ _ h => h) (Or.inl ⟨by rfl, fun wz _ => by go_simp⟩) F0 ?_
                simp only [Act.put, List.setIfInBounds_toArray, List.set_cons_zero, List.set_cons_succ]
                -- TAKEN T1
                refine AnyT.branch (rs := [5]) (by kernel_rfl) (by simp) ?_
                refine all_cons (?_) all_nil
                refine AnyT.enterG (i := 5) (d := some 87) (f := 27) (args := #[jv (some aA) pn jc wt, .int .i64 (x : Int), .int .i64 (y : Int)]) rfl (by rfl) rfl (by go_simp) (HK1.out q0 (HIW.out q0 K0.out)) ?_
                rintro e q1 ⟨rfl, hB1⟩
                have K1 := Lib.hid (K0.out.trans (hB1.mono K0.out.size))
                have F1 := HPS.out q1 K1.out
                refine ⟨_, rfl, fun _ => F1, ?_⟩
                clear hB1 F0 HK1
                simp only [Act.put, List.setIfInBounds_toArray, List.set_cons_zero, List.set_cons_succ]
                by_cases hr0 : r = 0
                · subst hr0
-- TAKES T2
                  refine AnyT.takeD (i := 6) (d := some 88) (v := .bool true) rfl rfl (by kernel_rfl) (by kernel_rfl) (by kernel_rfl) (by kernel_rfl) (fun _ _ _ h => h) (Or.inl ⟨by rfl, fun wz _ => by go_simp⟩) F1 ?_
                  simp only [Act.put, List.setIfInBounds_toArray, List.set_cons_zero, List.set_cons_succ]
                  refine AnyT.takeD (i := 7) (d := some 89) (v := .bool true) rfl rfl (by kernel_rfl) (by kernel_rfl) (by kernel_rfl) (by kernel_rfl) (fun _ _ _ h => h) (Or.inl ⟨by rfl, fun wz _ => by go_simp⟩) F1 ?_
                  simp only [Act.put, List.setIfInBounds_toArray, List.set_cons_zero, List.set_cons_succ]
                  refine AnyT.takeD (i := 8) (d := some 90) (v := undef) rfl rfl (by kernel_rfl) (by kernel_rfl) (by kernel_rfl) (by kernel_rfl) (fun _ _ _ h => h) (Or.inr ⟨by rfl, rfl⟩) F1 ?_
                  simp only [Act.put, List.setIfInBounds_toArray, List.set_cons_zero, List.set_cons_succ]
                  refine AnyT.takeD (i := 9) (d := some 91) (v := undef) rfl rfl (by kernel_rfl) (by kernel_rfl) (by kernel_rfl) (by kernel_rfl) (fun _ _ _ h => h) (Or.inr ⟨by rfl, rfl⟩) F1 ?_
                  simp only [Act.put, List.setIfInBounds_toArray, List.set_cons_zero, List.set_cons_succ]
                  refine AnyT.takeD (i := 10) (d := some 92) (v := undef) rfl rfl (by kernel_rfl) (by kernel_rfl) (by kernel_rfl) (by kernel_rfl) (fun _ _ _ h => h) (Or.inr ⟨by rfl, rfl⟩) F1 ?_
                  simp only [Act.put, List.setIfInBounds_toArray, List.set_cons_zero, List.set_cons_succ]
                  refine AnyT.takeD (i := 11) (d := some 93) (v := undef) rfl rfl (by kernel_rfl) (by kernel_rfl) (by kernel_rfl) (by kernel_rfl) (fun _ _ _ h => h) (Or.inr ⟨by rfl, rfl⟩) F1 ?_
                  simp only [Act.put, List.setIfInBounds_toArray, List.set_cons_zero, List.set_cons_succ]
                  refine AnyT.takeD (i := 12) (d := some 94) (v := undef) rfl rfl (by kernel_rfl) (by kernel_rfl) (by kernel_rfl) (by kernel_rfl) (fun _ _ _ h => h) (Or.inr ⟨by rfl, rfl⟩) F1 ?_
                  simp only [Act.put, List.setIfInBounds_toArray, List.set_cons_zero, List.set_cons_succ]
                  refine AnyT.takeD (i := 13) (d := some 95) (v := undef) rfl rfl (by kernel_rfl) (by kernel_rfl) (by kernel_rfl) (by kernel_rfl) (fun _ _ _ h => h) (Or.inr ⟨by rfl, rfl⟩) F1 ?_
                  simp only [Act.put, List.setIfInBounds_toArray, List.set_cons_zero, List.set_cons_succ]
                  refine AnyT.takeD (i := 14) (d := some 96) (v := undef) rfl rfl (by kernel_rfl) (by kernel_rfl) (by kernel_rfl) (by kernel_rfl) (fun _ _ _ h => h) (Or.inr ⟨by rfl, rfl⟩) F1 ?_
                  simp only [Act.put, List.setIfInBounds_toArray, List.set_cons_zero, List.set_cons_succ]
                  refine AnyT.takeD (i := 15) (d := some 97) (v := undef) rfl rfl (by kernel_rfl) (by kernel_rfl) (by kernel_rfl) (by kernel_rfl) (fun _ _ _ h => h) (Or.inr ⟨by rfl, rfl⟩) F1 ?_
                  simp only [Act.put, List.setIfInBounds_toArray, List.set_cons_zero, List.set_cons_succ]
                  refine AnyT.takeD (i := 16) (d := some 98) (v := undef) rfl rfl (by kernel_rfl) (by kernel_rfl) (by kernel_rfl) (by kernel_rfl) (fun _ _ _ h => h) (Or.inr ⟨by rfl, rfl⟩) F1 ?_
                  simp only [Act.put, List.setIfInBounds_toArray, List.set_cons_zero, List.set_cons_succ]
                  refine AnyT.takeD (i := 17) (d := some 99) (v := undef) rfl rfl (by kernel_rfl) (by kernel_rfl) (by kernel_rfl) (by kernel_rfl) (fun _ _ _ h => h) (Or.inr ⟨by rfl, rfl⟩) F1 ?_
                  simp only [Act.put, List.setIfInBounds_toArray, List.set_cons_zero, List.set_cons_succ]
                  refine AnyT.takeD (i := 18) (d := some 100) (v := undef) rfl rfl (by kernel_rfl) (by kernel_rfl) (by kernel_rfl) (by kernel_rfl) (fun _ _ _ h => h) (Or.inr ⟨by rfl, rfl⟩) F1 ?_
                  simp only [Act.put, List.setIfInBounds_toArray, List.set_cons_zero, List.set_cons_succ]
                  refine AnyT.takeD (i := 19) (d := some 101) (v := undef) rfl rfl (by kernel_rfl) (by kernel_rfl) (by kernel_rfl) (by kernel_rfl) (fun _ _ _ h => h) (Or.inr ⟨by rfl, rfl⟩) F1 ?_
                  simp only [Act.put, List.setIfInBounds_toArray, List.set_cons_zero, List.set_cons_succ]
                  refine AnyT.takeD (i := 20) (d := some 102) (v := .bool true) rfl rfl (by kernel_rfl) (by kernel_rfl) (by kernel_rfl) (by kernel_rfl) (fun _ _ _ h => h) (Or.inl ⟨by rfl, fun wz _ => by go_simp⟩) F1 ?_
                  simp only [Act.put, List.setIfInBounds_toArray, List.set_cons_zero, List.set_cons_succ]
                  refine AnyT.takeD (i := 21) (d := some 103) (v := .bool true) rfl rfl (by kernel_rfl) (by kernel_rfl) (by kernel_rfl) (by kernel_rfl) (fun _ _ _ h => h) (Or.inl ⟨by rfl, fun wz _ => by go_simp⟩) F1 ?_
                  simp only [Act.put, List.setIfInBounds_toArray, List.set_cons_zero, List.set_cons_succ]
                  refine AnyT.takeD (i := 22) (d := some 11) (v := .bool true) rfl rfl (by kernel_rfl) (by kernel_rfl) (by kernel_rfl) (by kernel_rfl) (fun _ _ _ h => h) (Or.inl ⟨by rfl, fun wz _ => by go_simp⟩) F1 ?_
                  simp only [Act.put, List.setIfInBounds_toArray, List.set_cons_zero, List.set_cons_succ]
                  -- TAKEN T2
                  refine AnyT.done_ (by kernel_rfl) ?_ _
                  have BR1 := Lib.hid (BI.out.trans (K1.out.mono BI.out.size))
                  have HF1 := Lib.hid (show true = true → x + 1 ≤ xh from fun _ => by
                    have h1 := HF.out rfl
                    rcases Nat.eq_or_lt_of_le h1 with e | e
                    · exact absurd rfl (HXX.out e).1
                    · exact e)
                  clear F1 HPS HE0 K0 K1 HS1 HIW HF HXX
                  go_wp2_with fail
                  go_roundw
                  case rel => exact ⟨true, x + 1, by omega, rfl, by go_num, HF1, BR1⟩
                  case measure => simp [intOf]; omega
                · have hrz : (r == 0) = false := by simpa using hr0
                  have hwr : IntKind.i64.wrap (vx + s1) = vx + s1 := IntWalk.i64_in _ (by omega)
-- TAKES T3
                  refine AnyT.takeD (i := 6) (d := some 88) (v := .bool false) rfl rfl (by kernel_rfl) (by kernel_rfl) (by kernel_rfl) (by kernel_rfl) (fun _ _ _ h => h) (Or.inl ⟨by rfl, fun wz _ => by go_simp⟩) F1 ?_
                  simp only [Act.put, List.setIfInBounds_toArray, List.set_cons_zero, List.set_cons_succ]
                  refine AnyT.takeD (i := 7) (d := some 89) (v := .bool false) rfl rfl (by kernel_rfl) (by kernel_rfl) (by kernel_rfl) (by kernel_rfl) (fun _ _ _ h => h) (Or.inl ⟨by rfl, fun wz _ => by go_simp⟩) F1 ?_
                  simp only [Act.put, List.setIfInBounds_toArray, List.set_cons_zero, List.set_cons_succ]
                  refine AnyT.takeD (i := 8) (d := some 90) (v := .pointer (some ⟨g1, 1, none⟩)) rfl rfl (by kernel_rfl) (by kernel_rfl) (by kernel_rfl) (by kernel_rfl) (fun _ _ _ h => h) (Or.inl ⟨by rfl, fun wz _ => by go_simp⟩) F1 ?_
                  simp only [Act.put, List.setIfInBounds_toArray, List.set_cons_zero, List.set_cons_succ]
                  refine AnyT.takeD (i := 9) (d := some 91) (v := .slice (some pad) pn pc) rfl rfl (by kernel_rfl) (by kernel_rfl) (by kernel_rfl) (by kernel_rfl) (fun _ _ _ h => h) (Or.inl ⟨by rfl, fun wz hz => by obtain ⟨z0, z1, z2, z3⟩ := hz; go_simp⟩) F1 ?_
                  simp only [Act.put, List.setIfInBounds_toArray, List.set_cons_zero, List.set_cons_succ]
                  refine AnyT.takeD (i := 10) (d := some 92) (v := .int .i64 (x : Int)) rfl rfl (by kernel_rfl) (by kernel_rfl) (by kernel_rfl) (by kernel_rfl) (fun _ _ _ h => h) (Or.inl ⟨by rfl, fun wz _ => by go_simp⟩) F1 ?_
                  simp only [Act.put, List.setIfInBounds_toArray, List.set_cons_zero, List.set_cons_succ]
                  refine AnyT.takeD (i := 11) (d := some 93) (v := .pointer (some (pad.add x))) rfl rfl (by kernel_rfl) (by kernel_rfl) (by kernel_rfl) (by kernel_rfl) (fun _ _ _ h => h) (Or.inl ⟨by rfl, fun wz _ => by go_simp⟩) F1 ?_
                  simp only [Act.put, List.setIfInBounds_toArray, List.set_cons_zero, List.set_cons_succ]
                  refine AnyT.takeD (i := 12) (d := some 94) (v := .int .i64 vx) rfl rfl (by kernel_rfl) (by kernel_rfl) (by kernel_rfl) (by kernel_rfl) (fun _ _ _ h => h) (Or.inl ⟨by rfl, fun wz hz => by obtain ⟨z0, z1, z2, z3⟩ := hz; go_simp⟩) F1 ?_
                  simp only [Act.put, List.setIfInBounds_toArray, List.set_cons_zero, List.set_cons_succ]
                  refine AnyT.takeD (i := 13) (d := some 95) (v := jv (some aA) pn jc wt) rfl rfl (by kernel_rfl) (by kernel_rfl) (by kernel_rfl) (by kernel_rfl) (fun _ _ _ h => h) (Or.inl ⟨by rfl, fun wz hz => by obtain ⟨z0, z1, z2, z3⟩ := hz; go_simp⟩) F1 ?_
                  simp only [Act.put, List.setIfInBounds_toArray, List.set_cons_zero, List.set_cons_succ]
                  refine AnyT.takeD (i := 14) (d := some 96) (v := .int .i64 (x : Int)) rfl rfl (by kernel_rfl) (by kernel_rfl) (by kernel_rfl) (by kernel_rfl) (fun _ _ _ h => h) (Or.inl ⟨by rfl, fun wz _ => by go_simp⟩) F1 ?_
                  simp only [Act.put, List.setIfInBounds_toArray, List.set_cons_zero, List.set_cons_succ]
                  refine AnyT.takeD (i := 15) (d := some 97) (v := .int .i64 (y : Int)) rfl rfl (by kernel_rfl) (by kernel_rfl) (by kernel_rfl) (by kernel_rfl) (fun _ _ _ h => h) (Or.inl ⟨by rfl, fun wz _ => by go_simp⟩) F1 ?_
                  simp only [Act.put, List.setIfInBounds_toArray, List.set_cons_zero, List.set_cons_succ]
                  refine AnyT.takeD (i := 18) (d := some 100) (v := .int .i64 (B : Int)) rfl rfl (by kernel_rfl) (by kernel_rfl) (by kernel_rfl) (by kernel_rfl) (fun _ _ _ h => h) (Or.inl ⟨by rfl, fun wz _ => by go_simp⟩) F1 ?_
                  simp only [Act.put, List.setIfInBounds_toArray, List.set_cons_zero, List.set_cons_succ]
                  -- TAKEN T3
                  refine AnyT.branch (rs := [16]) (by kernel_rfl) (by simp) ?_
                  refine all_cons (?_) all_nil
                  refine AnyT.enterG (i := 16) (d := some 98) (f := 28) (args := #[jv (some aA) pn jc wt, .int .i64 (x : Int), .int .i64 (y : Int)]) rfl (by rfl) rfl (by go_simp) (HS1.out q1 (HIW.out q1 K1.out)) ?_
                  rintro e q2 ⟨rfl, hB2⟩
                  have K2 := Lib.hid (K1.out.trans (hB2.mono K1.out.size))
                  have F2 := HPS.out q2 K2.out
                  refine ⟨_, rfl, fun _ => F2, ?_⟩
                  clear hB2 F1 HS1
                  simp only [Act.put, List.setIfInBounds_toArray, List.set_cons_zero, List.set_cons_succ]
                  have BR1 := Lib.hid (BI.out.trans (K2.out.mono BI.out.size))
                  by_cases hle : vx + s1 ≤ (B : Int)
                  · have hnl : ¬ (B : Int) < vx + s1 := by omega
-- TAKES T4
                    refine AnyT.takeD (i := 17) (d := some 99) (v := .int .i64 (vx + s1)) rfl rfl (by kernel_rfl) (by kernel_rfl) (by kernel_rfl) (by kernel_rfl) (fun _ _ _ h => h) (Or.inl ⟨by rfl, fun wz _ => by go_simp⟩) F2 ?_
                    simp only [Act.put, List.setIfInBounds_toArray, List.set_cons_zero, List.set_cons_succ]
                    refine AnyT.takeD (i := 19) (d := some 101) (v := .bool true) rfl rfl (by kernel_rfl) (by kernel_rfl) (by kernel_rfl) (by kernel_rfl) (fun _ _ _ h => h) (Or.inl ⟨by rfl, fun wz _ => by go_simp⟩) F2 ?_
                    simp only [Act.put, List.setIfInBounds_toArray, List.set_cons_zero, List.set_cons_succ]
                    refine AnyT.takeD (i := 20) (d := some 102) (v := .bool true) rfl rfl (by kernel_rfl) (by kernel_rfl) (by kernel_rfl) (by kernel_rfl) (fun _ _ _ h => h) (Or.inl ⟨by rfl, fun wz _ => by go_simp⟩) F2 ?_
                    simp only [Act.put, List.setIfInBounds_toArray, List.set_cons_zero, List.set_cons_succ]
                    refine AnyT.takeD (i := 21) (d := some 103) (v := .bool true) rfl rfl (by kernel_rfl) (by kernel_rfl) (by kernel_rfl) (by kernel_rfl) (fun _ _ _ h => h) (Or.inl ⟨by rfl, fun wz _ => by go_simp⟩) F2 ?_
                    simp only [Act.put, List.setIfInBounds_toArray, List.set_cons_zero, List.set_cons_succ]
                    refine AnyT.takeD (i := 22) (d := some 11) (v := .bool true) rfl rfl (by kernel_rfl) (by kernel_rfl) (by kernel_rfl) (by kernel_rfl) (fun _ _ _ h => h) (Or.inl ⟨by rfl, fun wz _ => by go_simp⟩) F2 ?_
                    simp only [Act.put, List.setIfInBounds_toArray, List.set_cons_zero, List.set_cons_succ]
                    -- TAKEN T4
                    refine AnyT.done_ (by kernel_rfl) ?_ _
                    have HF1 := Lib.hid (show true = true → x + 1 ≤ xh from fun _ => by
                      have h1 := HF.out rfl
                      rcases Nat.eq_or_lt_of_le h1 with e | e
                      · exact absurd (HXX.out e).2 hnl
                      · exact e)
                    clear F2 HPS HE0 K0 K1 K2 HIW HF HXX hwr hrz hle hnl
                    go_wp2_with fail
                    go_roundw
                    case rel => exact ⟨true, x + 1, by omega, rfl, by go_num, HF1, BR1⟩
                    case measure => simp [intOf]; omega
                  · have hnl : (B : Int) < vx + s1 := by omega
-- TAKES T5
                    refine AnyT.takeD (i := 17) (d := some 99) (v := .int .i64 (vx + s1)) rfl rfl (by kernel_rfl) (by kernel_rfl) (by kernel_rfl) (by kernel_rfl) (fun _ _ _ h => h) (Or.inl ⟨by rfl, fun wz _ => by go_simp⟩) F2 ?_
                    simp only [Act.put, List.setIfInBounds_toArray, List.set_cons_zero, List.set_cons_succ]
                    refine AnyT.takeD (i := 19) (d := some 101) (v := .bool false) rfl rfl (by kernel_rfl) (by kernel_rfl) (by kernel_rfl) (by kernel_rfl) (fun _ _ _ h => h) (Or.inl ⟨by rfl, fun wz _ => by go_simp⟩) F2 ?_
                    simp only [Act.put, List.setIfInBounds_toArray, List.set_cons_zero, List.set_cons_succ]
                    refine AnyT.takeD (i := 20) (d := some 102) (v := .bool false) rfl rfl (by kernel_rfl) (by kernel_rfl) (by kernel_rfl) (by kernel_rfl) (fun _ _ _ h => h) (Or.inl ⟨by rfl, fun wz _ => by go_simp⟩) F2 ?_
                    simp only [Act.put, List.setIfInBounds_toArray, List.set_cons_zero, List.set_cons_succ]
                    refine AnyT.takeD (i := 21) (d := some 103) (v := .bool false) rfl rfl (by kernel_rfl) (by kernel_rfl) (by kernel_rfl) (by kernel_rfl) (fun _ _ _ h => h) (Or.inl ⟨by rfl, fun wz _ => by go_simp⟩) F2 ?_
                    simp only [Act.put, List.setIfInBounds_toArray, List.set_cons_zero, List.set_cons_succ]
                    refine AnyT.takeD (i := 22) (d := some 11) (v := .bool false) rfl rfl (by kernel_rfl) (by kernel_rfl) (by kernel_rfl) (by kernel_rfl) (fun _ _ _ h => h) (Or.inl ⟨by rfl, fun wz _ => by go_simp⟩) F2 ?_
                    simp only [Act.put, List.setIfInBounds_toArray, List.set_cons_zero, List.set_cons_succ]
                    -- TAKEN T5
                    refine AnyT.done_ (by kernel_rfl) ?_ _
                    clear F2 HPS HE0 K0 K1 K2 HIW HF HXX hwr hrz hle hnl
                    go_wp2_with fail
                    go_roundw
                    case rel => exact ⟨false, x + 1, by omega, rfl, by go_num, Lib.hid (fun e => by cases e), BR1⟩
                    case measure => simp [intOf]; omega
            · have hff : f = false := by
                cases f
                · rfl
                · have h1 := HF.out rfl
                  have := HX.out.1
                  omega
              subst hff
              have hxi : ¬ (x : Int) < (pn : Int) := by omega
              go_wp2_with fail
              go_roundw
              case rel => exact ⟨y + 1, by omega, by go_num, BI⟩
              case measure => simp [intOf]; omega
      · go_wp2_with fail
        refine (sane13_any _).mono ?_
        rintro e wz ⟨rfl, BZ⟩
        have HZ := Lib.hid (S7.out.bel.trans (BZ.mono S7.out.bel.size))
        clear BZ
        go_wp2_with fail
        go_ret
        exact ⟨rfl, HZ.out⟩
theorem lea_law (a : Option Addr) (len cap : Nat) (zs : List Int) (w : World) (h : IsRow .i64 w a len cap zs) :
    Calls Try.prog 7 #[.slice a len cap] w fun e w' => e = .returned (.bool true) ∧ Below w.heap.size w w' := by
  obtain ⟨l, rfl, h1, h2, h3⟩ := h.row
  exact lea_walk a cap l w h1 h2 h3
end Go.Proofs.Ytcplanafcnnodaa
