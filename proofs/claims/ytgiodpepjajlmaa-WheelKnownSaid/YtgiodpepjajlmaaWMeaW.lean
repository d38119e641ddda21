/-
  Stage 7: the walk of WheelMeasures.
-/
import Derived.Test.YtgiodpepjajlmaaWMea2
import Derived.Test.YtgiodpepjajlmaaWSane
set_option linter.unusedSimpArgs false
set_option linter.unusedVariables false
namespace Go.Proofs.Ytgiodpepjajlmaa
open Go.RowKit

theorem own_row {w : World} {base : Nat} {A : Option Addr} {n c : Nat} {zs : List Int} (h : Own .i64 3 w base (.slice A n c) zs) : Row .i64 w w.heap.size A zs := by
  obtain ⟨A', c', e, R, _⟩ := h.slice
  injection e with e _ _; subst e; exact R
theorem own_len {w : World} {base : Nat} {v : Value} {zs : List Int} (h : Own .i64 3 w base v zs) : zs.length ≤ maxLen := by
  obtain ⟨A', c', e, R, _, h, _⟩ := h.slice; exact h

set_option maxRecDepth 100000 in
set_option maxHeartbeats 6400000 in
theorem mea_walk (a : Option Addr) (len cap : Nat) (zs : List Int) (A1 : Option Addr) (l1 c1 : Nat) (z1 : List Int) (A2 : Option Addr) (l2 c2 : Nat) (z2 : List Int) (b s : Int) (w : World) (h : IsRow .i64 w a len cap zs) (h1 : IsRow .i64 w A1 l1 c1 z1) (h2 : IsRow .i64 w A2 l2 c2 z2) :
    Calls Try.prog 6 #[.slice a len cap, .slice A1 l1 c1, .slice A2 l2 c2, .int .i64 b, .int .i64 s] w fun e w' => e = .returned (.bool true) ∧ Below w.heap.size w w' := by
  obtain ⟨f, rfl, rf, mf, -⟩ := h1.row
  obtain ⟨t, rfl, rt, mt, -⟩ := h2.row
  have HF := Lib.hid rf
  have HT := Lib.hid rt
  have HMF := Lib.hid mf
  have HMT := Lib.hid mt
  have HA := Lib.hid h
  clear h h1 h2 rf rt
  replace mf : f.length ≤ 9223372036854775807 := mf
  replace mt : t.length ≤ 9223372036854775807 := mt
  obtain ⟨L, hL⟩ : ∃ n, n = f.length := ⟨_, rfl⟩
  obtain ⟨M, hM⟩ : ∃ n, n = t.length := ⟨_, rfl⟩
  have HL := Lib.hid hL
  have HM := Lib.hid hM
  rw [← hL] at mf ⊢
  rw [← hM] at mt ⊢
  clear hL hM
  go_enter Try.func6, Try.ntmps6
  go_upto_region 1 with fail
  go_cut [27] (fun b wc => (∃ Z : Bool, b = .bool Z) ∧ wc = w)
  case first =>
    go_wp2_with fail
    go_meet
    case rel => exact ⟨⟨_, rfl⟩, rfl⟩
  obtain ⟨⟨Z, rfl⟩, rfl⟩ := hcut
  go_upto_if 27 with fail
  go_cut [10] (fun r wx => r = .bool false ∧ Hid (Below wc.heap.size wc wx))
  case first =>
    cases Z
    case false =>
      go_wp2_with fail
      go_meet
      case rel => exact ⟨rfl, Lib.hid (Below.refl _ _)⟩
    case true =>
      go_wp2_with fail
      have p1 := pmea_any f t b A1 A2 c1 c2 wc HF.out HT.out HMF.out HMT.out
      rw [← HL.out, ← HM.out] at p1
      refine p1.mono ?_
      rintro e w1 ⟨v1, rfl, O1, B1⟩
      have HB1 := Lib.hid B1
      have HO1 := Lib.hid O1
      clear p1 O1 B1
      go_wp2_with fail
      have p2 := rmea_any f t b A1 A2 c1 c2 w1 (HF.out.below HB1.out) (HT.out.below HB1.out) HMF.out HMT.out
      rw [← HL.out, ← HM.out] at p2
      refine p2.mono ?_
      rintro e w2 ⟨v2, rfl, O2, B2⟩
      have HB2 := Lib.hid (HB1.out.trans (B2.mono HB1.out.size))
      have HO2 := Lib.hid O2
      have HO3 := Lib.hid (HO1.out.below B2)
      clear p2 O2 B2 HB1 HO1
      obtain ⟨X, hX⟩ : ∃ X, X = meaR f t b := ⟨_, rfl⟩
      rw [← hX] at HO2 HO3 ⊢
      clear hX
      obtain ⟨B1, d1, rfl, -⟩ := HO3.out.slice
      obtain ⟨B2, d2, rfl, -⟩ := HO2.out.slice
      have q1 := ints_same X.1 B1 B2 d1 d2 w2 (own_row HO3.out) (own_row HO2.out) (own_len HO2.out)
      have ev : (X.2 != X.2) = false := bne_self_eq_false _
      go_wp2_with fail
      refine q1.mono ?_
      rintro e w3 ⟨rfl, nn, rfl⟩
      go_wp2_with fail
      go_meet
      case rel => exact ⟨rfl, Lib.hid (bdn HB2.out)⟩
  obtain ⟨rfl, HB⟩ := hcut
  obtain ⟨tl, rfl, rtl, mtl, wtl⟩ := HA.out.row
  have HK := Lib.hid (mk_row (T := 59) (c := cap) (rtl.below HB.out) mtl wtl)
  clear rtl wtl HF HT HMF HMT HA HL HM
  go_wp2_with fail
  refine (new_any a tl.length cap _).mono ?_
  rintro e w1 ⟨rfl, rfl⟩
  go_wp2_with fail
  refine (mwagons_any _ 0 8 _ HK.out (by decide) (by decide)).mono ?_
  rintro e w2 ⟨v, l, rfl, O, hl8, hmd, k2, m2⟩
  have HB2 := Lib.hid (HB.out.trans (Moves.below (box1W _ _) m2 (Nat.le_refl _) (by simp)|>.mono HB.out.size))
  have HD := Lib.hid (dst_of (l := l) (by omega) (fun x hx => by obtain ⟨k, hk⟩ := List.mem_iff_getElem?.1 hx; exact (hmd k x hk).1))
  have hlen := HD.out.len
  obtain ⟨AL, cl, rfl, RL⟩ := O.slice
  have HRL := Lib.hid RL
  obtain ⟨d, hd⟩ : ∃ d, d = dfs (plK l l.length) := ⟨_, rfl⟩
  rw [← hd] at HD hlen
  clear O hmd k2 m2 HK HB hd RL
  go_wp2_with fail
  refine (pdist_any l AL cl _ HRL.out).mono ?_
  rintro e w3 ⟨v3, rfl, O3, B3⟩
  rw [HD.out.eq] at O3 ⊢
  have HB3 := Lib.hid (HB2.out.trans (B3.mono HB2.out.size))
  have HO3 := Lib.hid O3
  obtain ⟨DA, dc, rfl, -⟩ := OwnI.read HO3.out
  obtain ⟨D, hD⟩ : ∃ D, D = d.length := ⟨_, rfl⟩
  have HDN := Lib.hid hD
  have hD48 : D ≤ 48 := by omega
  rw [← hD]
  clear O3 B3 HB2 HRL hD hlen hl8
  go_upto_region 8 with fail
  have hsb := tmod_bd s 20 (by decide)
  obtain ⟨S, hS⟩ : ∃ S, S = wrap64 (1 + (wrap64 (s.tmod 20 + 20)).tmod 20) := ⟨_, rfl⟩
  have hSb : 1 ≤ S ∧ S ≤ 20 := by
    have e1 : wrap64 (s.tmod 20 + 20) = s.tmod 20 + 20 := IntWalk.wrap64_in _ (by omega)
    have h2 := tmod_bd (s.tmod 20 + 20) 20 (by decide)
    have h3 : 0 ≤ (s.tmod 20 + 20).tmod 20 := Int.tmod_nonneg _ (by omega)
    rw [hS, e1, IntWalk.wrap64_in _ (by omega)]
    omega
  rw [← hS]
  obtain ⟨S1, S2⟩ := hSb
  generalize (wrap64 (s.tmod 20 + 20)).tmod 20 = y1
  generalize wrap64 (s.tmod 20 + 20) = y2
  generalize s.tmod 20 = y3
  clear hS hsb
  have HBD := Lib.hid HD.out.bd
  have HRO := Lib.hid (roll (d := d) (s := S) HD.out.bd (by rw [← HDN.out]; omega) S1 S2)
  have HAT := Lib.hid (show ∀ k, k ≤ D → 1000 ≤ atK d S k ∧ atK d S k ≤ 1000 + 160000 * (k : Int) from fun k hk => atK_bd HBD.out S1 S2 k (by rw [← HDN.out]; exact hk))
  have e0 : IntKind.i64.wrap (100 * S) = 100 * S := IntWalk.i64_in _ (by omega)
  have ev : ((0 : Int) != 0) = false := rfl
  have w100 : wrap64 (100 * S) = 100 * S := IntWalk.wrap64_in _ (by omega)
  go_wp2_with fail
  generalize w3 = wd at *
  have OX := Lib.hid ((Own.laid (k := .i64) (T := 3) wd wd.heap.size (Nat.le_refl _) [1000] 1 rfl (by decide)).alloc (.cells #[.int .i64 (1000 + 100 * S)] 3))
  have OY := Lib.hid (Own.laid (k := .i64) (T := 3) (wd.alloc (.cells #[.int .i64 1000] 3)) wd.heap.size (by simp) [1000 + 100 * S] 1 rfl (by decide))
  have BW := Lib.hid ((box1W wd (.cells #[.int .i64 1000] 3)).alloc (by simp) (.cells #[.int .i64 (1000 + 100 * S)] 3))
  have HAP := Lib.hid (show Apart2 (.slice (some ⟨wd.heap.size, 0, none⟩) 1 1) (.slice (some ⟨wd.heap.size + 1, 0, none⟩) 1 1) from fun g hg e => by
    have h1 : wd.heap.size = g := by simpa [Value.ownBlock] using hg
    have h2 : wd.heap.size + 1 = g := by simpa [Value.ownBlock] using e
    omega)
  clear e0 w100
  have e1 : (wd.alloc (.cells #[.int .i64 1000] 3)).heap.size = wd.heap.size + 1 := by simp
  rw [e1] at OY
  clear e1
  go_loopw [17, 18, 19, 20] (fun at_ vx vy i wr => ∃ k : Nat, k ≤ D ∧ i = .int .i64 k ∧ ∃ z : Int, at_ = .int .i64 z ∧ Hid (z = atK d S k) ∧ Hid (Own .i64 3 wr wd.heap.size vx (xK d S 0 k)) ∧ Hid (Own .i64 3 wr wd.heap.size vy (xK d S (100 * S) k)) ∧ Hid (Apart2 vx vy) ∧ Hid (Below wd.heap.size wd wr)) (fun _ _ _ i _ => D - (intOf i).toNat)
  case atStart => exact ⟨0, by omega, rfl, 1000, rfl, Lib.hid rfl, OX, OY, HAP, BW⟩
  case round =>
    clear OX OY HAP BW
    obtain ⟨k, hk, rfl, z, rfl, HZ, OX, OY, AP, B⟩ := hrel
    have zb := HAT.out k hk
    rw [← HZ.out] at zb
    obtain ⟨zb1, zb2⟩ := zb
    by_cases hlt : k < D
    · obtain ⟨ad, rfl, -, c0⟩ := (own_row (HO3.out.below B.out)) k (by rw [← HDN.out]; exact hlt)
      have db := HBD.out k (by rw [← HDN.out]; exact hlt)
      have HZ2 := Lib.hid (show z + d.getD k 0 * S = atK d S (k + 1) by rw [HZ.out]; rfl)
      have zb' := HAT.out (k + 1) (by omega)
      rw [← HZ2.out] at zb'
      obtain ⟨y, hy⟩ : ∃ y, y = d.getD k 0 := ⟨_, rfl⟩
      rw [← hy] at c0 db HZ2 zb'
      obtain ⟨d1, d2⟩ := db
      obtain ⟨m, hm⟩ : ∃ m, m = y * S := ⟨_, rfl⟩
      have m1 : 0 ≤ m := by rw [hm]; exact Int.mul_nonneg (by omega) (by omega)
      have m2 : m ≤ 8000 * 20 := by rw [hm]; exact Int.mul_le_mul d2 S2 (by omega) (by omega)
      have w1 : wrap64 (y * S) = m := by rw [← hm]; exact IntWalk.wrap64_in _ (by omega)
      have w2 : wrap64 (z + m) = z + m := IntWalk.wrap64_in _ (by omega)
      have w3 : wrap64 (100 * S) = 100 * S := IntWalk.wrap64_in _ (by omega)
      rw [← hm] at HZ2
      have HSB := Lib.hid B.out.size
      have HLX := Lib.hid (show (xK d S 0 k).length + 1 ≤ 1000000000 by rw [xK_len]; omega)
      have HLY := Lib.hid (show (xK d S (100 * S) k).length + 1 ≤ 1000000000 by rw [xK_len]; omega)
      have HSX := Lib.hid (show xK d S 0 (k + 1) = xK d S 0 k ++ [z + m] by rw [HZ2.out]; show _ ++ [_] = _; rw [Int.add_zero])
      have HSY := Lib.hid (show xK d S (100 * S) (k + 1) = xK d S (100 * S) k ++ [z + m + 100 * S] by rw [HZ2.out]; rfl)
      clear hy hm zb'
      go_wp2_with (first
        | (at_builtin; refine wpList_appI _ rfl (.tmp 86) (.tmp 88) rfl wd.heap.size _ (xK d S 0 k) rfl (OX.out.alloc _) (z + m) wr rfl _ rfl 1 rfl HLX.out (le_allocW HSB.out) ?_; intro v5 w5 A5; have O5 := Lib.hid A5.1; have Y5 := Lib.hid (A5.other (OY.out.alloc _) AP.out); have B5 := Lib.hid (A5.below B.out HSB.out OX.out); clear A5 c0)
        | (at_builtin; refine wpList_appI _ rfl (.tmp 90) (.tmp 95) rfl wd.heap.size _ (xK d S (100 * S) k) rfl (Y5.out.1.alloc _) (z + m + 100 * S) w5 rfl _ rfl 1 rfl HLY.out (le_allocW B5.out.size) ?_; intro v6 w6 A6; have O6 := Lib.hid A6.1; have X6 := Lib.hid (A6.other (O5.out.alloc _) Y5.out.2.symm); have B6 := Lib.hid (A6.below B5.out B5.out.size Y5.out.1); clear A6))
      go_roundw
      case rel => exact ⟨k + 1, by omega, by go_num, _, rfl, HZ2, Lib.hid (by rw [HSX.out]; exact X6.out.1), Lib.hid (by rw [HSY.out]; exact O6.out), Lib.hid X6.out.2.symm, B6⟩
      case measure => simp [intOf] <;> omega
    · obtain rfl : k = D := by omega
      obtain ⟨XA, xc, rfl, -⟩ := OX.out.slice
      obtain ⟨YA, yc, rfl, -⟩ := OY.out.slice
      have l1 : (xK d S 0 k).length = k + 1 := xK_len _ _ _ _
      have l2 : (xK d S (100 * S) k).length = k + 1 := xK_len _ _ _ _
      have p1 := pmea_any (xK d S 0 k) (xK d S (100 * S) k) 100 XA YA xc yc wr (own_row OX.out) (own_row OY.out) (own_len OX.out) (own_len OY.out)
      rw [HDN.out, HRO.out, ← HDN.out, l1, l2] at p1
      rw [l1, l2]
      have hB := Lib.hid (HB3.out.trans (B.out.mono HB3.out.size))
      have HO4 := Lib.hid (HO3.out.below B.out)
      clear l1 l2 OX OY AP B hlt hk zb1 zb2
      go_wp2_with fail
      refine p1.mono ?_
      rintro e w4 ⟨v4, rfl, O4, B4⟩
      have HB4 := Lib.hid (hB.out.trans (B4.mono hB.out.size))
      have HO5 := Lib.hid (HO4.out.below B4)
      have HO6 := Lib.hid O4
      obtain ⟨EA, ec, rfl, -⟩ := HO6.out.slice
      have q1 := ints_same d EA DA ec dc w4 (own_row HO6.out) (own_row HO5.out) (own_len HO5.out)
      rw [← HDN.out] at q1 ⊢
      clear p1 O4 B4 ev
      go_wp2_with fail
      refine q1.mono ?_
      rintro e w5 ⟨rfl, nn, rfl⟩
      clear q1
      go_wp2_with fail
      refine (sane_any _).mono ?_
      rintro e w6 ⟨rfl, B6⟩
      go_wp2_with fail
      go_ret
      exact ⟨rfl, (bdn (n := nn) HB4.out).trans (B6.mono (bdn (n := nn) HB4.out).size)⟩
end Go.Proofs.Ytgiodpepjajlmaa
