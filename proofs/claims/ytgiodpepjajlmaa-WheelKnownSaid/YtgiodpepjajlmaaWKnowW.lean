/-
  Stage 7: the walk of WheelKnown.
-/
import Derived.Test.YtgiodpepjajlmaaWPat
import Derived.Test.YtgiodpepjajlmaaWRDist
import Derived.Test.YtgiodpepjajlmaaWSane
import Derived.Test.YtgiodpepjajlmaaWMeaW
import Derived.Test.YtgiodpepjajlmaaMkFrom
set_option linter.unusedSimpArgs false
set_option linter.unusedVariables false
namespace Go.Proofs.Ytgiodpepjajlmaa
open Go.RowKit

theorem prec_are {d : List Int} {ps : List (List Int)} {tol : Int} {z : Int × Nat} (he : recErr d ps tol = 0) (hx : (tb ps tol d).getD 0 none = some z) (A A2 : Option Addr) (L c M c2 : Nat) (w : World) (hL : L = d.length) (hM : M = ps.length) (h : Row .i64 w w.heap.size A d) (hl : d.length ≤ maxLen) (hcap : d.length ≤ c) (h2 : PP w A2 ps) (hl2 : ps.length ≤ maxLen) :
    Calls Try.prog 10 #[.slice A L c, .slice A2 M c2, .int .i64 tol] w fun e w' => (∃ v, e = .returned (.tuple #[v, .int .i64 z.1, .int .i64 0]) ∧ Own .i64 3 w' w.heap.size v ((recPath d ps tol).map Int.ofNat)) ∧ Below w.heap.size w w' :=
  prec_is (recR_some he hx) A A2 L c M c2 w hL hM h hl hcap h2 hl2
theorem own_cap {w : World} {base : Nat} {A : Option Addr} {n c : Nat} {zs : List Int} (h : Own .i64 3 w base (.slice A n c) zs) : zs.length ≤ c := by
  obtain ⟨A', c', e, _, h, _⟩ := h.slice; injection e with _ _ e; omega
theorem axl_take {ps : List (List Int)} {P : List Nat} {j : Nat} (h : j < P.length) : axl ps (P.take (j + 1)) = axl ps (P.take j) + ((ps.getD (P.getD j 0) []).length + 1) := by
  unfold axl
  have e : P.getD j 0 = P[j] := by rw [List.getD_eq_getElem?_getD, List.getElem?_eq_getElem h]; rfl
  rw [List.take_succ_eq_append_getElem h, List.map_append, List.sum_append, e]
  simp
theorem axl_ge {ps : List (List Int)} (P : List Nat) : P.length ≤ axl ps P := by
  induction P with
  | nil => simp
  | cons x P ih =>
    unfold axl at ih ⊢
    rw [List.map_cons, List.sum_cons, List.length_cons]
    omega
theorem dst_leW {x : Wag} (h : validW x = 0) : x.dst.size ≤ 12 := by
  have h3 := (validW_parts h).2.2.2
  unfold nameS at h3
  rw [Bool.and_eq_true] at h3
  have := of_decide_eq_true h3.1
  omega
theorem axl_le {ps : List (List Int)} {P : List Nat} (j : Nat) : axl ps (P.take j) ≤ axl ps P := by
  have : axl ps P = axl ps (P.take j) + axl ps (P.drop j) := by
    unfold axl
    rw [← List.sum_append, ← List.map_append, List.take_append_drop]
  omega
theorem map_nat_at {P : List Nat} {j : Nat} (h : j < P.length) : (P.map Int.ofNat).getD j 0 = ((P.getD j 0 : Nat) : Int) := by
  rw [List.getD_eq_getElem?_getD, List.getElem?_map, List.getElem?_eq_getElem h, List.getD_eq_getElem?_getD, List.getElem?_eq_getElem h]; rfl
set_option maxRecDepth 100000 in
set_option maxHeartbeats 6400000 in
theorem known_walk (a : Option Addr) (len cap : Nat) (zs : List Int) (w : World) (h : IsRow .i64 w a len cap zs) :
    Calls Try.prog 8 #[.slice a len cap] w fun e w' => e = .returned (.bool true) ∧ Below w.heap.size w w' := by
  have HK0 := Lib.hid (mk_new (T := 59) h)
  have HB0 := Lib.hid (box1W w (.cells #[.slice a len cap, .int .i64 0] 59))
  clear h
  go_enter Try.func8, Try.ntmps8
  go_wp2_with fail
  refine (new_any a len cap w).mono ?_
  rintro e w1 ⟨rfl, rfl⟩
  go_wp2_with fail
  refine (mwagons_any _ 0 8 _ HK0.out (by decide) (by decide)).mono ?_
  rintro e w2 ⟨v, l, rfl, O, hl8, hmd, k2, m2⟩
  have HB2 := Lib.hid (Moves.below HB0.out m2 (Nat.le_refl _) HB0.out.size)
  have HK2 := Lib.hid k2
  have HW2 := Lib.hid k2.lt
  have HV := Lib.hid (show ∀ x ∈ l, validW x = 0 from fun x hx => by obtain ⟨k, hk⟩ := List.mem_iff_getElem?.1 hx; exact (hmd k x hk).1)
  have HSZ := Lib.hid (show ∀ x ∈ l, x.dst.size ≤ 4611686018427387904 from fun x hx => by have := dst_leW (HV.out x hx); omega)
  obtain ⟨AL, cl, rfl, RL⟩ := O.slice
  have HRL := Lib.hid RL
  obtain ⟨n, hn⟩ : ∃ n, n = l.length := ⟨_, rfl⟩
  have HN := Lib.hid hn
  rw [← hn] at hl8 ⊢
  clear O hmd k2 m2 HK0 HB0 hn RL
  by_cases hn0 : n = 0
  · subst hn0
    go_wp2_with fail
    refine (sane_any _).mono ?_
    rintro e w3 ⟨rfl, B3⟩
    go_wp2_with fail
    go_ret
    exact ⟨rfl, HB2.out.trans (B3.mono HB2.out.size)⟩
  have hnz : ((n : Int) == 0) = false := beq_eq_false_iff_ne.2 (by omega)
  have HNP := Lib.hid (show 0 < l.length by rw [← HN.out]; omega)
  have HD := Lib.hid (dst_of (l := l) (by rw [← HN.out]; omega) HV.out)
  obtain ⟨d, hd⟩ : ∃ d, d = dfs (plK l l.length) := ⟨_, rfl⟩
  have HDD := Lib.hid hd
  rw [← hd] at HD
  have hdl := HD.out.len
  obtain ⟨ps, hps⟩ : ∃ ps, ps = paK l l.length := ⟨_, rfl⟩
  have HPS := Lib.hid hps
  have HPN := Lib.hid (show n = ps.length by rw [hps, paK_len, HN.out])
  have hok : okD d = true := List.all_eq_true.2 fun z hz => decide_eq_true (by
    obtain ⟨j, hj⟩ := List.mem_iff_getElem?.1 hz
    have := HD.out.bd j (List.getElem?_eq_some_iff.1 hj).1
    rw [List.getD_eq_getElem?_getD, hj] at this
    show 1 ≤ z ∧ z ≤ 10000
    have e : (some z).getD 0 = z := rfl
    rw [e] at this
    omega)
  have HE0 := Lib.hid (show recErr d ps 0 = 0 by rw [hps]; exact known_err HV.out (by rw [← HN.out]; exact hl8) hok (by rw [← HN.out] at hdl; omega) (by decide) (by decide))
  have HPLN := Lib.hid (show d.length + 1 = (plK l l.length).length by
    rw [hd, dfs_len]
    have := (placed (made_at HV.out) l.length (Nat.le_refl _)).len
    have := HN.out
    omega)
  have HN0 := Lib.hid (show Near l d 0 from ⟨HPLN.out, fun j _ => by rw [← HDD.out]; exact ab_le (by omega) (by omega)⟩)
  obtain ⟨z, hz, hz1, hz2⟩ := near_tb (tol := 0) HV.out (by rw [← HN.out]; omega) HN0.out (by decide) (by decide)
  have hz0 : z.1 = 0 := by omega
  rw [← hps] at hz
  have HZ := Lib.hid hz
  have HZ0 := Lib.hid hz0
  obtain ⟨P, hP⟩ : ∃ P, P = recPath d ps 0 := ⟨_, rfl⟩
  have HAX := path_axl hz
  rw [← hP] at HAX
  obtain ⟨hax, hal⟩ := HAX
  have HAXL := Lib.hid hax
  have HALL := Lib.hid hal
  have HP := Lib.hid hP
  obtain ⟨D, hDN⟩ : ∃ D, D = d.length := ⟨_, rfl⟩
  have HDN := Lib.hid hDN
  rw [← hDN] at hdl
  rw [← HN.out] at hdl
  have hD48 : D ≤ 48 := by omega
  clear hd hps hok hz hz1 hz2 hz0 hP hax hal hDN hdl hn0
  go_wp2_with fail
  have p1 := rdist_any l AL cl w2 HRL.out HSZ.out
  rw [HD.out.eq, ← HN.out] at p1
  refine p1.mono ?_
  rintro e w3 ⟨v3, rfl, O3, B3⟩
  have HO3 := Lib.hid O3
  have HB3 := Lib.hid (HB2.out.trans (B3.mono HB2.out.size))
  have HR3 := Lib.hid (HRL.out.below B3)
  have HK3 := Lib.hid (HK2.out.stays' B3)
  obtain ⟨DA, dc, rfl, -⟩ := OwnI.read HO3.out
  rw [← HDN.out]
  clear p1 O3 B3 HB2 HRL HK2 hnz
  go_wp2_with fail
  have p2 := pat_any l AL cl w3 HR3.out HSZ.out HV.out (by rw [← HN.out]; exact hl8)
  rw [← HN.out] at p2
  refine p2.mono ?_
  rintro e w4 ⟨⟨vp, ds, rfl, hpt⟩, B4⟩
  rw [HN.out, ← HPS.out] at hpt
  have HPT := Lib.hid hpt
  have HO4 := Lib.hid (HO3.out.below B4)
  have HB4 := Lib.hid (HB3.out.trans (B4.mono HB3.out.size))
  have HK4 := Lib.hid (HK3.out.stays' B4)
  have HW3 := Lib.hid (show w.heap.size < w3.heap.size from HK3.out.lt)
  obtain ⟨PA, pc, rfl, hpp⟩ := HPT.out.pp
  have HPP := Lib.hid hpp
  rw [← HPN.out]
  clear p2 hpt hpp B4 HO3 HB3 HR3 HK3
  go_wp2_with fail
  have p3 := prec_are HE0.out HZ.out DA PA D dc n pc w4 HDN.out HPN.out (own_row HO4.out) (own_len HO4.out) (own_cap HO4.out) HPP.out (by rw [← HPN.out]; unfold maxLen; omega)
  rw [HZ0.out, ← HP.out] at p3
  refine p3.mono ?_
  rintro e w5 ⟨⟨v5, rfl, O5⟩, B5⟩
  have HB5 := Lib.hid (HB4.out.trans (B5.mono HB4.out.size))
  have HO5 := Lib.hid (HO4.out.below B5)
  have HP5 := Lib.hid (HPT.out.below B5)
  have HK5 := Lib.hid (HK4.out.stays' B5)
  have HPO := Lib.hid O5
  obtain ⟨RA, rc, rfl, -⟩ := OwnI.read HPO.out
  have el : (P.map Int.ofNat).length = P.length := List.length_map _
  rw [el]
  obtain ⟨R, hR⟩ : ∃ R, R = P.length := ⟨_, rfl⟩
  have HR := Lib.hid hR
  have hR49 : R ≤ 49 := by
    have h1 := HAXL.out
    have h2 := axl_ge (ps := ps) P
    have h3 := HDN.out
    omega
  rw [← hR]
  clear p3 O5 B5 HB4 HO4 HK4 HPT HPP el hR
  have HPP5 := Lib.hid (show PP w5 PA ps from by
    obtain ⟨A', c', e, h⟩ := HP5.out.pp
    injection e with e _ _; subst e; exact h)
  go_wp2_with fail
  go_loopw [11, 52] (fun av iv wr => ∃ j : Nat, j ≤ R ∧ iv = .int .i64 j ∧ ∃ x : Nat, av = .int .i64 (x : Int) ∧ x ≤ 49 ∧ Hid (x = axl ps (P.take j)) ∧ wr = w5) (fun _ iv _ => R - (intOf iv).toNat)
  case atStart => exact ⟨0, by omega, rfl, 0, rfl, by omega, Lib.hid rfl, rfl⟩
  case round =>
    obtain ⟨j, hj, rfl, x, rfl, hx49, HX, rfl⟩ := hrel
    by_cases hlt : j < R
    · obtain ⟨ra, rfl, -, c0⟩ := (own_row HPO.out) j (by rw [List.length_map, ← HR.out]; exact hlt)
      rw [map_nat_at (by rw [← HR.out]; exact hlt)] at c0
      have hq := HALL.out (P.getD j 0) (getD_memL (by rw [← HR.out]; exact hlt))
      have hst := axl_take (ps := ps) (P := P) (j := j) (by rw [← HR.out]; exact hlt)
      have hle := axl_le (ps := ps) (P := P) (j + 1)
      rw [HAXL.out, ← HDN.out] at hle
      obtain ⟨q, hqq⟩ : ∃ q, q = P.getD j 0 := ⟨_, rfl⟩
      rw [← hqq] at c0 hq hst
      obtain ⟨pa, rfl, a1, cp, cc, -, -⟩ := HPP5.out.at_ (k := q) hq
      obtain ⟨y, hy⟩ : ∃ y, y = (ps.getD q []).length := ⟨_, rfl⟩
      rw [← hy] at cc hst
      have HST := Lib.hid (show x + (y + 1) = axl ps (P.take (j + 1)) by rw [hst, HX.out])
      rw [hst, ← HX.out] at hle
      rw [← HPN.out] at hq
      have hq1 : (q : Int) < (n : Int) := by omega
      have hq2 : ¬ (n : Int) ≤ (q : Int) := by omega
      have hq3 : ¬ (q : Int) < 0 := by omega
      have hx2 : x + (y + 1) ≤ 49 := by omega
      have hcast : ((x + (y + 1) : Nat) : Int) = (x : Int) + ((y : Int) + 1) := by omega
      have HCS := Lib.hid hcast
      clear hst hle hqq hy hcast
      go_wp2_with fail
      go_roundw
      case rel => exact ⟨j + 1, by omega, by go_num, x + (y + 1), by rw [HCS.out], hx2, HST, by trivial⟩
      case measure => simp [intOf] <;> omega
    · obtain rfl : j = R := by omega
      have hxe : x = D + 1 := by
        have := HX.out
        rw [HR.out, List.take_length, HAXL.out, ← HDN.out] at this
        exact this
      subst hxe
      obtain ⟨i0, hi, hz0, hz1, hz2⟩ := info_parts infoIntW
      generalize wr = w5 at *
      have hdrow := own_row HO5.out
      have hcd : DA = none → D = 0 ∧ dc = 0 := fun e => by
        subst e
        rcases HO5.out.2 with ⟨e1, e2⟩ | ⟨g, cap, cur, e1, _⟩
        · injection e1 with _ h1 h2; exact ⟨by rw [HDN.out]; exact h1, h2⟩
        · cases e1
      have hoe := own_empty (w := w5) (e := 3) (m := 1) (Nat.le_refl w5.heap.size)
      have hrow2 := (hdrow.below (box1W w5 (.cells #[] 3)))
      clear hlt hj hdrow
      go_wp2_with (first | (at_builtin; refine wpList_app_src rfl (.tmp 73) (.tmp 74) 22 rfl w5.heap.size 3 i0 (.int .i64 0) 1 8 Try.underlying22 hi hz0 hz1 hz2 rfl (by decide) _ 0 [] rfl hoe DA D dc (d.map (Value.int .i64)) rfl hcd (by rw [List.length_map, HDN.out, Nat.mul_one]) hrow2.newsO one_cells (by unfold maxLen; omega) (by omega) (le_allocW (Nat.le_refl _)) ?_; intro v6 w6 O6 G6))
      have OM := Lib.hid (show Own .i64 3 w6 w5.heap.size v6 d from by
        have h1 : w6.ownsRow w5.heap.size 3 1 v6 (0 + D) ([].map (Value.int .i64) ++ d.map (Value.int .i64)) := O6
        have := Own.app (zs := []) (ys := d) h1 rfl HDN.out
        exact this)
      replace G6 : (w5.alloc (.cells #[] 3)).grownBy w6 (some w5.heap.size) := G6
      have MV := Lib.hid (show Moves w.heap.size w5 w6 from ((Moves.refl _ w5).alloc (.cells #[] 3)).grown G6 (fun k e => by
        injection e with e
        omega))
      have KM := Lib.hid (show IsMk w6 w.heap.size (0 + 1 + 17 * 8) from (HK5.out.alloc (.cells #[] 3)).grown G6 (fun k e => by
        injection e with e
        have := HK5.out.lt
        omega))
      clear O6 G6 hi hz0 hz1 hz2 hcd hoe hrow2
      obtain ⟨MA, mc, rfl, -⟩ := OwnI.read OM.out
      rw [← HDN.out] at OM ⊢
      have BD := Lib.hid HD.out.bd
      go_wp2_with fail
      go_loopw [15] (fun iv wr => ∃ (k N : Nat) (ms : List Int), iv = .int .i64 k ∧ k ≤ D ∧ N ≤ 137 + k ∧ ms.length = D ∧ Hid ((∀ j, k ≤ j → ms.getD j 0 = d.getD j 0) ∧ (∀ j, j < k → ab (ms.getD j 0) (d.getD j 0) ≤ 8 ∧ 1 ≤ ms.getD j 0 ∧ ms.getD j 0 ≤ 8008)) ∧ Hid (Own .i64 3 wr w5.heap.size (.slice MA D mc) ms) ∧ Hid (IsMk wr w.heap.size N) ∧ Hid (Moves w.heap.size w5 wr)) (fun iv _ => D - (intOf iv).toNat)
      case atStart => exact ⟨0, 137, d, rfl, by omega, by omega, by rw [HDN.out], Lib.hid ⟨fun j _ => rfl, fun j hj => by omega⟩, OM, KM, MV⟩
      case round =>
        clear OM KM MV
        obtain ⟨k, N, ms, rfl, hk, hN, hms, MS, O, K, V⟩ := hrel
        have HMS := Lib.hid hms
        by_cases hlt : k < D
        · have hw5 : w.heap.size < w5.heap.size := HK5.out.lt
          obtain ⟨g, hMA, hg1, hg2⟩ : ∃ g, MA = some ⟨g, 0, none⟩ ∧ w5.heap.size ≤ g ∧ g < wr.heap.size := by
            obtain ⟨A', c', e, _, _, _, hg⟩ := O.out.slice
            injection e with e1 _ _
            subst e1
            exact hg (by omega)
          subst hMA
          have c0 := O.out.cell (g := g) hms.symm k (by omega)
          have xe := MS.out.1 k (Nat.le_refl k)
          have xb := BD.out k (by rw [← HDN.out]; exact hlt)
          rw [← xe] at xb
          obtain ⟨x, hx⟩ : ∃ x, x = ms.getD k 0 := ⟨_, rfl⟩
          have HXE := Lib.hid (show x = d.getD k 0 by rw [hx, xe])
          have HXX := Lib.hid hx
          rw [← hx] at c0 xb
          obtain ⟨x1, x2⟩ := xb
          have hmx : ∀ w ts t y, (Builtin.max_ ts t #[.int .i64 1, .int .i64 y]).run Try.prog w = .ok (.int .i64 (max2 1 y)) w := fun w ts t y => run_max2 _ _ _ _ _ _
          have k1 : (k : Int) < (D : Int) := by omega
          have k0 : (0 : Int) ≤ (k : Int) := by omega
          have hgm : g ≠ w.heap.size := by omega
          have hmg : w.heap.size < g := by omega
          have HNN := Lib.hid hN
          have HG2 := Lib.hid hg2
          have HG1 := Lib.hid hg1
          clear hx xe hms hN hg2 hg1
          go_upto_region 22 with fail
          go_region_law (go_simp; go_at_call 27; refine (from_any w.heap.size N (-8) 8 wr.drew (K.out.drewN (n := 1)) (by have := HNN.out; omega) (by decide) (by decide) (by decide)).mono ?_; rintro e w7 ⟨y, rfl, y1, y2, K7, V7⟩; have O7 := ((O.out.drewN 1).moves V7 hw5); have c7 := O7.cell HMS.out.symm k (by rw [HMS.out]; exact hlt); rw [← HXX.out] at c7; have f7 := O7.frozen HMS.out.symm k; have wy : IntKind.i64.wrap (x + y) = x + y := IntWalk.i64_in _ (by omega); have HO7 := Lib.hid O7; have HK7 := Lib.hid K7; have HV7 := Lib.hid ((V.out.drewN (n := 1)).trans V7); clear O7 K7 V7)
          all_goals
            have OF := Lib.hid (HO7.out.store HMS.out.symm k (max2 1 (x + y)))
            have KF := Lib.hid (HK7.out.setCell (p := ⟨g, k, none⟩) hmg (.int .i64 (max2 1 (x + y))))
            have VF := Lib.hid (HV7.out.setCell (p := ⟨g, k, none⟩) (Or.inr HG1.out) (.int .i64 (max2 1 (x + y))))
            have HNX := Lib.hid (show (∀ j, k + 1 ≤ j → (ms.set k (max2 1 (x + y))).getD j 0 = d.getD j 0) ∧ (∀ j, j < k + 1 → ab ((ms.set k (max2 1 (x + y))).getD j 0) (d.getD j 0) ≤ 8 ∧ 1 ≤ (ms.set k (max2 1 (x + y))).getD j 0 ∧ (ms.set k (max2 1 (x + y))).getD j 0 ≤ 8008) from by
              have hget : ∀ j, (ms.set k (max2 1 (x + y))).getD j 0 = if k = j then max2 1 (x + y) else ms.getD j 0 := fun j => by
                rw [List.getD_eq_getElem?_getD, List.getElem?_set]
                by_cases e : k = j
                · subst e
                  rw [if_pos rfl, if_pos rfl, if_pos (by rw [HMS.out]; exact hlt)]; rfl
                · rw [if_neg e, if_neg e, ← List.getD_eq_getElem?_getD]
              refine ⟨fun j hj => ?_, fun j hj => ?_⟩
              · rw [hget, if_neg (by omega)]; exact MS.out.1 j (by omega)
              · rw [hget]
                by_cases e : k = j
                · subst e
                  rw [if_pos rfl, ← HXE.out]
                  have hm : max2 1 (x + y) = if (1 : Int) < x + y then x + y else 1 := rfl
                  rw [hm]
                  refine ⟨?_, ?_, ?_⟩
                  · split
                    · exact ab_le (by omega) (by omega)
                    · exact ab_le (by omega) (by omega)
                  · split <;> omega
                  · split <;> omega
                · rw [if_neg e]; exact MS.out.2 j (by omega))
            clear HO7 HK7 HV7 c0 c7 f7 wy hmx
            go_wp2_with fail
            go_roundw
            case rel => exact ⟨k + 1, N + 1, ms.set k (max2 1 (x + y)), by go_num, by omega, by have := HNN.out; omega, by rw [List.length_set, HMS.out], HNX, OF, KF, VF⟩
            case measure => simp [intOf] <;> omega
        · obtain rfl : k = D := by omega
          have hw5 : w.heap.size < w5.heap.size := HK5.out.lt
          have hms0 := hms
          have HML := Lib.hid (show ms.length = d.length by rw [hms, HDN.out])
          have HNE := Lib.hid (show Near l ms 8 from ⟨by rw [HML.out]; exact HPLN.out, fun j hj => by rw [← HDD.out]; exact (MS.out.2 j (by rw [hms] at hj; exact hj)).1⟩)
          have hokm : okD ms = true := List.all_eq_true.2 fun z hz => decide_eq_true (by
            obtain ⟨j, hj⟩ := List.mem_iff_getElem?.1 hz
            have hj2 := (List.getElem?_eq_some_iff.1 hj).1
            have := (MS.out.2 j (by rw [hms] at hj2; exact hj2)).2
            rw [List.getD_eq_getElem?_getD, hj] at this
            show 1 ≤ z ∧ z ≤ 10000
            have e : (some z).getD 0 = z := rfl
            rw [e] at this
            omega)
          have HE1 := Lib.hid (show recErr ms ps 10 = 0 by rw [HPS.out]; exact known_err HV.out (by rw [← HN.out]; exact hl8) hokm (by omega) (by decide) (by decide))
          have HE2 := Lib.hid (show recErr ms ps 30 = 0 by rw [HPS.out]; exact known_err HV.out (by rw [← HN.out]; exact hl8) hokm (by omega) (by decide) (by decide))
          obtain ⟨za, hza, ha1, ha2⟩ := near_tb (tol := 10) HV.out HNP.out HNE.out (by decide) (by decide)
          rw [← HPS.out] at hza
          obtain ⟨zb, hzb, hb1⟩ := tol_mono (l := l) (t2 := 30) hza (by decide)
          rw [hms] at ha2
          have HZA := Lib.hid hza
          have HZB := Lib.hid hzb
          have HPW := Lib.hid (HP5.out.moves V.out HW3.out)
          have HBR := Lib.hid (show Below w.heap.size w wr from Moves.below HB5.out V.out (Nat.le_refl _) HB5.out.size)
          have HOM := Lib.hid (show Own .i64 3 wr w5.heap.size (.slice MA k mc) ms from O.out)
          have HPW2 := Lib.hid (show ∀ W, Below wr.heap.size wr W → PP W PA ps from fun W hW => by
            obtain ⟨A', c', e, h⟩ := (HPW.out.below hW).pp
            injection e with e _ _; subst e; exact h)
          clear hlt hk hN O K V hokm hza hzb HPW MS
          go_wp2_with fail
          have p4 := prec_are HE1.out HZA.out MA PA k mc n pc wr hms0.symm HPN.out (own_row HOM.out) (own_len HOM.out) (own_cap HOM.out) (HPW2.out _ (Below.refl _ _)) (by rw [← HPN.out]; unfold maxLen; omega)
          refine p4.mono ?_
          rintro e w8 ⟨⟨v8, rfl, O8⟩, B8⟩
          have HB8 := Lib.hid (HBR.out.trans (B8.mono HBR.out.size))
          have p5 := prec_are HE2.out HZB.out MA PA k mc n pc w8 hms0.symm HPN.out (own_row (HOM.out.below B8)) (own_len HOM.out) (own_cap HOM.out) (HPW2.out _ B8) (by rw [← HPN.out]; unfold maxLen; omega)
          clear p4 O8 B8 hms hms0
          go_wp2_with fail
          refine p5.mono ?_
          rintro e w9 ⟨⟨v9, rfl, O9⟩, B9⟩
          have HB9 := Lib.hid (HB8.out.trans (B9.mono HB8.out.size))
          clear p5 O9 B9
          generalize za.1 = xa at *
          generalize zb.1 = xb at *
          have ev : (((k + 1 : Nat) : Int) == (k : Int) + 1) = true := beq_iff_eq.2 rfl
          have ha3 : xa ≤ 8 * (k : Int) := ha2
          go_wp2_with fail
          refine (sane_any _).mono ?_
          rintro e w10 ⟨rfl, B10⟩
          go_wp2_with fail
          go_ret
          exact ⟨rfl, HB9.out.trans (B10.mono HB9.out.size)⟩
end Go.Proofs.Ytgiodpepjajlmaa
